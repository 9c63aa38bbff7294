package render_test

import (
	"math"
	"math/rand/v2"
	"slices"
	"strconv"
	"strings"
	"testing"

	"pangram/api"
	"pangram/check"
	"pangram/render"
)

func at(from, to int) api.Span { return api.Span{From: from, To: to} }

func list(l ...string) []string { return l }

// wide is limits that are as great as may be.
func wide() api.Limits {
	return api.Limits{Bytes: api.MaxLimit, Depth: api.MaxLimit, Eqs: api.MaxLimit}
}

// others is numbers that no kind, and no limit, has.
var others = [...]int{math.MinInt, -1 << 32, -1, 0, 6, 7, 256, 1<<32 + 1, math.MaxInt}

// wantLines wants the lines of a verdict.
func wantLines(t *testing.T, s string, v api.Verdict, want ...string) {
	t.Helper()
	if got := render.Lines(s, v); !slices.Equal(got, want) {
		t.Errorf("%q, %+v: %q, want %q", s, v, got, want)
	}
}

func TestSchemes(t *testing.T) {
	for _, scheme := range []string{"'a -> 'a", "int", "", "no type at all", "a\nb\n", " \xff\x00"} {
		v := api.Verdict{Kind: api.VScheme, Scheme: scheme}
		wantLines(t, "fun x -> x", v, "type: "+scheme)
		wantLines(t, "", v, "type: "+scheme)
	}
	// What a kind doesn't name doesn't count.
	wantLines(t, "1", api.Verdict{Kind: api.VScheme, Scheme: "int", At: at(0, 1), Limit: 1, Core: []int{1}, Slices: []api.Span{at(0, 1)}, Steps: 3}, "type: int")
}

func TestSyntaxErrors(t *testing.T) {
	for _, c := range []struct {
		text string
		at   api.Span
		want []string
	}{
		{"if 1 then", at(9, 9), list("syntax error at 1:10", "if 1 then", "         ^")},
		{"1 then 2", at(2, 6), list("syntax error at 1:3", "1 then 2", "  ^^^^")},
		{"", at(0, 0), list("syntax error at 1:1", "", "^")},
		{"1\n)\n2", at(2, 3), list("syntax error at 2:1", ")", "^")},
		{"(1\n", at(3, 3), list("syntax error at 2:1", "", "^")},
		{"(1\n", at(2, 3), list("syntax error at 1:3", "(1", "  ^")},
		{"ab\ncd", at(-3, 1), list("syntax error at 1:1", "ab", "^")},
		{"ab\ncd", at(9, 12), list("syntax error at 2:3", "cd", "  ^")},
	} {
		wantLines(t, c.text, api.Verdict{Kind: api.VSyntax, At: c.at}, c.want...)
	}
	wantLines(t, "a", api.Verdict{Kind: api.VSyntax, Scheme: "int", Limit: 1, Slices: []api.Span{at(0, 1)}}, "syntax error at 1:1", "a", "^")
}

func TestUnboundNames(t *testing.T) {
	for _, c := range []struct {
		text string
		at   api.Span
		want []string
	}{
		{"x", at(0, 1), list("unbound x at 1:1", "x", "^")},
		{"fun x -> y", at(9, 10), list("unbound y at 1:10", "fun x -> y", "         ^")},
		{"1\n\tname\n", at(3, 7), list("unbound name at 2:2", "\tname", " ^^^^")},
		{"ab\ncd", at(1, 4), list("unbound b c at 1:2", "ab", " ^")},
		{"ab\ncd", at(2, 3), list("unbound   at 1:3", "ab", "  ^")},
		{"ab\n\n\ncd", at(0, 99), list("unbound ab   cd at 1:1", "ab", "^^")},
		{"ab", at(-5, 1), list("unbound a at 1:1", "ab", "^")},
		{"ab", at(math.MinInt, math.MaxInt), list("unbound ab at 1:1", "ab", "^^")},
		{"ab", at(1, 1), list("unbound  at 1:2", "ab", " ^")},
		{"ab", at(2, 1), list("unbound  at 1:3", "ab", "  ^")},
		{"ab", at(1, 0), list("unbound  at 1:2", "ab", " ^")},
		{"ab", at(5, 7), list("unbound  at 1:3", "ab", "  ^")},
		{"", at(0, 1), list("unbound  at 1:1", "", "^")},
	} {
		wantLines(t, c.text, api.Verdict{Kind: api.VScope, At: c.at}, c.want...)
	}
}

func TestLimits(t *testing.T) {
	for limit, word := range map[int]string{api.LBytes: "bytes", api.LDepth: "depth", api.LEqs: "equations", api.LSize: "size", 5: "unknown"} {
		wantLines(t, "1\n2", api.Verdict{Kind: api.VLimit, Limit: limit}, "limit: "+word)
	}
	for _, limit := range others {
		wantLines(t, "1", api.Verdict{Kind: api.VLimit, Limit: limit, Scheme: "int"}, "limit: unknown")
	}
}

func TestTypeErrors(t *testing.T) {
	for _, c := range []struct {
		text   string
		slices []api.Span
		want   []string
	}{
		{"fun f -> (f 1, f true)", []api.Span{at(10, 13), at(15, 21)}, list("  1:11 to 1:14: f 1", "  1:16 to 1:22: f true")},
		{"1\ntrue", []api.Span{at(0, 6)}, list("  1:1 to 2:5: 1 true")},
		{"1\n\n\n2", []api.Span{at(0, 5)}, list("  1:1 to 4:2: 1   2")},
		{"1 2\n", []api.Span{at(0, 4)}, list("  1:1 to 2:1: 1 2 ")},
		{"1 2", nil, nil},
		// As they are told: not merged, in that order, each as often.
		{"abc", []api.Span{at(2, 3), at(0, 1), at(0, 2), at(0, 1)}, list("  1:3 to 1:4: c", "  1:1 to 1:2: a", "  1:1 to 1:3: ab", "  1:1 to 1:2: a")},
		// As far as they lie in the text, and have bytes.
		{"abc", []api.Span{at(-2, 1), at(2, 9), at(-1, 9)}, list("  1:1 to 1:2: a", "  1:3 to 1:4: c", "  1:1 to 1:4: abc")},
		{"abc", []api.Span{at(-2, 0), at(3, 9), at(1, 1), at(2, 1), at(9, -9), at(5, 8), at(-9, -1), at(0, 0), at(math.MaxInt, math.MinInt)}, nil},
		{"abc", []api.Span{at(math.MinInt, math.MaxInt), at(math.MinInt, 2), at(1, math.MaxInt)}, list("  1:1 to 1:4: abc", "  1:1 to 1:3: ab", "  1:2 to 1:4: bc")},
		{"", []api.Span{at(0, 1), at(-1, 1)}, nil},
		{"\n", []api.Span{at(0, 1)}, list("  1:1 to 2:1:  ")},
		{"a\r\nb\t", []api.Span{at(1, 5)}, list("  1:2 to 2:3: \r b\t")},
	} {
		wantLines(t, c.text, api.Verdict{Kind: api.VType, Slices: c.slices}, append(list("type error"), c.want...)...)
	}
}

func TestOtherKinds(t *testing.T) {
	for _, kind := range others {
		v := api.Verdict{Kind: kind, Scheme: "int", At: at(0, 1), Limit: 1, Slices: []api.Span{at(0, 1)}}
		wantLines(t, "x", v, "nothing")
		if got := render.Word(v); got != "" {
			t.Errorf("the word of the kind %d: %q", kind, got)
		}
	}
}

func TestWord(t *testing.T) {
	for kind, word := range map[int]string{api.VScheme: "type", api.VSyntax: "syntax", api.VScope: "scope", api.VLimit: "limit", api.VType: "error"} {
		if got := render.Word(api.Verdict{Kind: kind}); got != word {
			t.Errorf("of the kind %d: %q", kind, got)
		}
	}
}

func TestCaret(t *testing.T) {
	lines := "ab c\n\nlast"
	for _, c := range []struct {
		what, text  string
		at          api.Span
		line, marks string
	}{
		{"the first byte", lines, at(0, 1), "ab c", "^"},
		{"some", lines, at(1, 3), "ab c", " ^^"},
		{"to the end of the line", lines, at(1, 4), "ab c", " ^^^"},
		{"with the line feed", lines, at(3, 5), "ab c", "   ^"},
		{"over several lines", lines, at(2, 9), "ab c", "  ^^"},
		{"at a line feed", lines, at(4, 5), "ab c", "    ^"},
		{"at a line feed, and further on", lines, at(4, 9), "ab c", "    ^"},
		{"at the line feed of an empty line", lines, at(5, 6), "", "^"},
		{"in the last line", lines, at(7, 9), "last", " ^^"},
		{"the last line, and beyond", lines, at(6, 99), "last", "^^^^"},
		{"the end", lines, at(10, 10), "last", "    ^"},
		{"beyond the end", lines, at(11, 14), "last", "    ^"},
		{"far beyond", lines, at(math.MaxInt, math.MaxInt), "last", "    ^"},
		{"no bytes", lines, at(7, 7), "last", " ^"},
		{"the wrong way round", lines, at(8, 6), "last", "  ^"},
		{"the wrong way round, far", lines, at(math.MaxInt, math.MinInt), "last", "    ^"},
		{"from below 0", lines, at(-3, 2), "ab c", "^^"},
		{"all below 0", lines, at(-3, -1), "ab c", "^"},
		{"to 0", lines, at(-3, 0), "ab c", "^"},
		{"from far below, to far beyond", lines, at(math.MinInt, math.MaxInt), "ab c", "^^^^"},
		{"from far below, to there", lines, at(math.MinInt, math.MinInt), "ab c", "^"},
		{"the wrong way round, to far below", lines, at(7, math.MinInt), "last", " ^"},
		{"the empty text", "", at(0, 0), "", "^"},
		{"the empty text, beyond", "", at(5, 9), "", "^"},
		{"an empty last line", "ab\n", at(3, 3), "", "^"},
		{"an empty last line, beyond", "ab\n", at(7, 9), "", "^"},
		{"a line feed alone", "\n", at(0, 1), "", "^"},
		{"bytes of other letters", "\xc2\xab\xff1", at(2, 4), "\xc2\xab\xff1", "  ^^"},
		{"tabs and carriage returns", "\ta\r\n", at(1, 9), "\ta\r", " ^^"},
	} {
		if got := render.Caret(c.text, c.at); !slices.Equal(got, list(c.line, c.marks)) {
			t.Errorf("%s: %q, want %q", c.what, got, list(c.line, c.marks))
		}
	}
}

// A second way, byte by byte

// secondPlace is the place of a byte.
func secondPlace(s string, i int) string {
	line, column := 1, 1
	for b := 0; b < i && b < len(s); b++ {
		column++
		if s[b] == '\n' {
			line, column = line+1, 1
		}
	}
	return strconv.Itoa(line) + ":" + strconv.Itoa(column)
}

// secondPiece is the piece that a span has.
func secondPiece(s string, at api.Span) string {
	p := ""
	for b := range len(s) {
		switch {
		case b < at.From || at.To <= b:
		case s[b] == '\n':
			p += " "
		default:
			p += s[b : b+1]
		}
	}
	return p
}

// secondCaret is a line, and marks below it.
func secondCaret(s string, at api.Span) []string {
	from := at.From
	if from < 0 {
		from = 0
	}
	if from > len(s) {
		from = len(s)
	}
	begin, end := from, from
	for begin > 0 && s[begin-1] != '\n' {
		begin--
	}
	for end < len(s) && s[end] != '\n' {
		end++
	}
	marks := ""
	for b := begin; b < end || b <= from; b++ {
		switch {
		case b < from:
			marks += " "
		case b == from || b < at.To:
			marks += "^"
		}
	}
	return list(s[begin:end], marks)
}

// secondLines is the lines of a verdict.
func secondLines(s string, v api.Verdict) []string {
	switch v.Kind {
	case api.VScheme:
		return list("type: " + v.Scheme)
	case api.VSyntax:
		return append(list("syntax error at "+secondPlace(s, v.At.From)), secondCaret(s, v.At)...)
	case api.VScope:
		return append(list("unbound "+secondPiece(s, v.At)+" at "+secondPlace(s, v.At.From)), secondCaret(s, v.At)...)
	case api.VLimit:
		return list("limit: " + list("unknown", "bytes", "depth", "equations", "size")[v.Limit])
	case api.VType:
		l := list("type error")
		for _, x := range v.Slices {
			if p := secondPiece(s, x); p != "" {
				l = append(l, "  "+secondPlace(s, x.From)+" to "+secondPlace(s, x.To)+": "+p)
			}
		}
		return l
	}
	return list("nothing")
}

// smallTexts is all texts of at most n of some bytes.
func smallTexts(n int, bytes ...string) []string {
	texts := []string{""}
	for from := 0; n > 0; n-- {
		to := len(texts)
		for _, s := range texts[from:to] {
			for _, b := range bytes {
				texts = append(texts, s+b)
			}
		}
		from = to
	}
	return texts
}

func TestSmallTexts(t *testing.T) {
	for _, s := range smallTexts(5, "a", "\n", "\xff") {
		for from := -2; from <= len(s)+2; from++ {
			for to := -2; to <= len(s)+2; to++ {
				x := at(from, to)
				if got := render.Caret(s, x); !slices.Equal(got, secondCaret(s, x)) {
					t.Fatalf("%q, %v: %q, want %q", s, x, got, secondCaret(s, x))
				}
				for _, v := range []api.Verdict{{Kind: api.VSyntax, At: x}, {Kind: api.VScope, At: x}, {Kind: api.VType, Slices: []api.Span{x, at(0, 1)}}} {
					wantLines(t, s, v, secondLines(s, v)...)
				}
			}
		}
	}
}

// reports

func TestReport(t *testing.T) {
	few := api.Limits{Bytes: 30, Depth: 3, Eqs: 9}
	for s, want := range map[string]string{
		"fun x -> x":                          "type: 'a -> 'a\n",
		"":                                    "syntax error at 1:1\n\n^\n",
		"if 1 then":                           "syntax error at 1:10\nif 1 then\n         ^\n",
		"1 +\n2":                              "syntax error at 1:3\n1 +\n  ^\n",
		"x":                                   "unbound x at 1:1\nx\n^\n",
		"fun x ->\n  (x, why)\n":              "unbound why at 2:7\n  (x, why)\n      ^^^\n",
		"fun x -> x x":                        "type error\n  1:10 to 1:13: x x\n",
		"fun x -> x\n  x # of itself":         "type error\n  1:10 to 2:4: x   x\n",
		"(1 : bool)":                          "type error\n  1:2 to 1:3: 1\n",
		"if true then\n1 else\ntrue":          "type error\n  2:1 to 2:2: 1\n  3:1 to 3:5: true\n",
		"let i = fun x -> x in i i":           "limit: equations\n",
		"((((1))))":                           "limit: depth\n",
		"let i = fun x -> x in (i 1, i true)": "limit: bytes\n",
	} {
		if got := render.Report(s, few); got != want {
			t.Errorf("%q: %q, want %q", s, got, want)
		}
	}
	great := "x"
	for range 12 {
		great = "(fun x -> " + great + ") (x, x)"
	}
	if got := render.Report("(fun x -> "+great+") 1", wide()); got != "limit: size\n" {
		t.Errorf("a great type: %.80q", got)
	}
	for _, n := range []int{math.MinInt, -1, 0, 1<<30 + 1} {
		for _, l := range []api.Limits{{Bytes: n, Depth: 1, Eqs: 1}, {Bytes: 1, Depth: n, Eqs: 1}, {Bytes: 1, Depth: 1, Eqs: n}} {
			if got := render.Report("1", l); got != "nothing\n" {
				t.Errorf("under %v: %q", l, got)
			}
		}
	}
}

// chance gives texts, the same ones whenever the tests run.
type chance struct{ *rand.Rand }

func begin(n uint64) chance { return chance{rand.New(rand.NewPCG(n, 24))} }

func (c chance) one(l ...string) string { return l[c.IntN(len(l))] }

func (c chance) text(depth int) string {
	b := c.one(" ", "\n", " # remark\n", "\r\n", "\t")
	part := func() string { return c.text(depth - 1) }
	n := c.IntN(12)
	switch {
	case depth == 0 || n < 2:
		return c.one("x", "y", "x", "y", "1", "true", ")", "'")
	case n < 5:
		return "fun " + c.one("x", "y") + " ->" + b + part()
	case n < 8:
		return "(" + part() + ")" + b + part()
	case n < 10:
		return "let x =" + b + part() + b + "in" + b + part()
	}
	return "(" + part() + "," + b + part() + ")"
}

// No line of a verdict that Check tells has a line feed, and a report is these lines.
func TestReportsByChance(t *testing.T) {
	c := begin(1)
	kinds := map[int]int{}
	for range 20000 {
		s := "fun x -> fun y ->\n" + c.text(c.IntN(5))
		if c.IntN(6) == 0 {
			s = c.text(c.IntN(5))
		}
		l := wide()
		if c.IntN(6) == 0 {
			l = api.Limits{Bytes: 10 + c.IntN(90), Depth: 2 + c.IntN(6), Eqs: 1 + c.IntN(40)}
		}
		v := check.Check(s, l)
		kinds[v.Kind]++
		lines := render.Lines(s, v)
		if !slices.Equal(lines, secondLines(s, v)) {
			t.Fatalf("%q: %q, want %q", s, lines, secondLines(s, v))
		}
		text := ""
		for _, line := range lines {
			if strings.Contains(line, "\n") {
				t.Fatalf("%q: a line feed in %q", s, line)
			}
			text += line + "\n"
		}
		if got := render.Report(s, l); got != text {
			t.Fatalf("%q: %q, want %q", s, got, text)
		}
		if v.Kind == api.VType && len(lines) != 1+len(v.Slices) {
			t.Fatalf("%q: %d lines for %v", s, len(lines), v.Slices)
		}
	}
	for kind := api.VScheme; kind <= api.VType; kind++ {
		if kinds[kind] < 300 {
			t.Errorf("%d of the kind %d", kinds[kind], kind)
		}
	}
}

// memory

func TestAnswersAreNewMemory(t *testing.T) {
	for _, v := range []api.Verdict{{Kind: api.VScheme, Scheme: "int"}, {Kind: api.VSyntax}, {Kind: api.VScope, At: at(0, 1)}, {Kind: api.VLimit}, {Kind: api.VType, Slices: []api.Span{at(0, 1)}}, {}} {
		first, second := render.Lines("ab", v), render.Lines("ab", v)
		kept := slices.Clone(second)
		for i := range first[:cap(first)] {
			first[:cap(first)][i] = "?"
		}
		if !slices.Equal(second, kept) || !slices.Equal(render.Lines("ab", v), kept) {
			t.Errorf("%+v: answers share memory", v)
		}
	}
	first, second := render.Caret("ab", at(1, 2)), render.Caret("ab", at(1, 2))
	first[0], first[1] = "?", "?"
	if !slices.Equal(second, list("ab", " ^")) {
		t.Error("Caret's answers share memory")
	}
}

func TestWhatIsHandedInStays(t *testing.T) {
	room := []api.Span{at(2, 3), at(0, 1), at(0, 9), at(7, 7)}
	v := api.Verdict{Kind: api.VType, Slices: room[:3], Core: []int{3, 1}}
	render.Lines("abc", v)
	if !slices.Equal(room, []api.Span{at(2, 3), at(0, 1), at(0, 9), at(7, 7)}) || !slices.Equal(v.Core, []int{3, 1}) {
		t.Errorf("slices are changed: %v", room)
	}
}

// Of a long text with many slices.
func TestManySlices(t *testing.T) {
	const n = 1 << 12
	s := strings.Repeat("ab\n", n)
	v := api.Verdict{Kind: api.VType}
	for i := range n {
		v.Slices = append(v.Slices, at(3*i+1, 3*i+2))
	}
	lines := render.Lines(s, v)
	if len(lines) != n+1 || lines[n] != "  4096:2 to 4096:3: b" {
		t.Errorf("%d lines, the last one %q", len(lines), lines[len(lines)-1])
	}
	if got := render.Caret(strings.Repeat("a", n)+"\n"+s, at(1, n)); len(got[0]) != n || len(got[1]) != n || strings.Count(got[1], "^") != n-1 {
		t.Error("Caret of a long line")
	}
}
