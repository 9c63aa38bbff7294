package signature_test

import (
	"math"
	"runtime/debug"
	"slices"
	"strings"
	"testing"

	"pangram/api"
	"pangram/lex"
	"pangram/signature"
	"pangram/types"
)

const deep = 1 << 17 // levels: calls within calls as deep would take more than the stack that TestDeepTexts gives

func v(n int) api.Type { return api.Type{Kind: api.TVar, N: n} }

func number() api.Type { return api.Type{Kind: api.TInt} }

func truth() api.Type { return api.Type{Kind: api.TBool} }

func arrow(a, b api.Type) api.Type { return api.Type{Kind: api.TArrow, Parts: []api.Type{a, b}} }

func tuple(parts ...api.Type) api.Type { return api.Type{Kind: api.TTuple, Parts: parts} }

func tokens(t *testing.T, s string) []api.Token {
	t.Helper()
	l, place, e := lex.Words(s)
	if e != api.OK {
		t.Fatalf("no tokens: %q, %d, %d", s, place, e)
	}
	return l
}

// wantRead wants of a text's tokens, from one on, at a level, a type and the place behind it.
func wantRead(t *testing.T, s string, at, level, most int, want api.Type, behind int) {
	t.Helper()
	got, place, e := signature.Read(tokens(t, s), at, level, most)
	if e != api.OK || place != behind || !types.Same(got, want) {
		t.Errorf("Read(%q, %d, %d, %d) = %v, %d, %d, want %v, %d", s, at, level, most, got, place, e, want, behind)
	}
}

// wantWrong wants of a text's tokens, from one on, at a level, an error and its place.
func wantWrong(t *testing.T, s string, at, level, most int, place int, e api.Errno) {
	t.Helper()
	wantWrongTokens(t, tokens(t, s), at, level, most, place, e)
}

func wantWrongTokens(t *testing.T, l []api.Token, at, level, most int, place int, e api.Errno) {
	t.Helper()
	got, p, gotE := signature.Read(l, at, level, most)
	if gotE != e || p != place || !types.Same(got, api.Type{}) {
		t.Errorf("Read(%q, %d, %d, %d) = %v, %d, %d, want none, %d, %d", lex.Print(l...), at, level, most, got, p, gotE, place, e)
	}
}

func row(n int, part string) string {
	return "(" + strings.Join(slices.Repeat([]string{part}, n), " * ") + ")"
}

// P4.1

func TestParse(t *testing.T) {
	for s, want := range map[string]api.Type{
		"int":                              number(),
		"bool":                             truth(),
		"'a":                               v(0),
		"'z":                               v(25),
		"'a1":                              v(26),
		"'l41297762":                       v(1<<30 - 1),
		"int -> bool":                      arrow(number(), truth()),
		"'a -> 'b -> 'a":                   arrow(v(0), arrow(v(1), v(0))),
		"('a -> 'b) -> 'a":                 arrow(arrow(v(0), v(1)), v(0)),
		"(('a -> 'b) -> int) -> int":       arrow(arrow(arrow(v(0), v(1)), number()), number()),
		"(int * bool)":                     tuple(number(), truth()),
		"(int * bool) -> int":              arrow(tuple(number(), truth()), number()),
		"((int -> bool) * ('c2 -> int))":   tuple(arrow(number(), truth()), arrow(v(54), number())),
		"((int * bool) * 'a)":              tuple(tuple(number(), truth()), v(0)),
		"(int * (bool * 'a) * 'a)":         tuple(number(), tuple(truth(), v(0)), v(0)),
		"(int * (int -> int -> int))":      tuple(number(), arrow(number(), arrow(number(), number()))),
		"int -> (int * int) -> (int * 'b)": arrow(number(), arrow(tuple(number(), number()), tuple(number(), v(1)))),
		row(8, "bool"):                     tuple(slices.Repeat([]api.Type{truth()}, 8)...),
	} {
		if got, e := signature.Parse(s); e != api.OK || !types.Same(got, want) {
			t.Errorf("Parse(%q) = %v, %d, want %v", s, got, e, want)
		}
	}
}

func TestTextsThatAreNoTypes(t *testing.T) {
	for _, s := range []string{
		"", " ", "in", "ints", "Int", "integer", "intint", "int int", "x", "0", "\x00", "\xff", "true", "fun",
		// blanks
		" int", "int ", "int\n", "\tint", "int  -> int", "int ->  int", "int->int", "int-> int", "int ->int", "int\t-> int",
		"( int * int)", "(int * int )", "(int*int)", "(int  * int)", "(int *int)", "int\u00a0-> int", "int # rest",
		// brackets
		"(", ")", "()", "(int)", "('a)", "((int * int))", "(int -> int)", "int -> (int -> int)", "((int -> int)) -> int",
		"(int) -> int", "((int) * int)", "(int * (bool))", "((int * int) -> int)", "(int * int", "int * int)", "((int * int)",
		"(int * int))", "int)", "(int", ")int(", "(int -> int -> int", "int(", "int ()", strings.Repeat("(", 300) + "int" + strings.Repeat(")", 300),
		// parts
		"int * int", "int * int -> int", "(int * int -> int)", "(int -> int * int)", "(int * )", "( * int)", "(int * * int)", "(int, int)",
		row(9, "int"), row(20, "int"), "(int *)", "*", "* int", "->", "-> int", "int ->", "int -> ", "int -> -> int", "int - > int", "int - int", "int > int",
		"int => int", "int -> * int",
		// variables
		"'", "a", "'A", "''a", "'a'", "' a", "'ab", "'a0", "'a01", "'a-1", "'a+1", "'a1 ", "'a1x", "'m41297762", "'a41297763", "'a_1",
		"'a99999999999999999999", "('a0 * int)", "'a -> 'b0",
	} {
		if got, e := signature.Parse(s); e != api.ErrForm || !types.Same(got, api.Type{}) {
			t.Errorf("Parse(%q) = %v, %d, want none, ErrForm", s, got, e)
		}
	}
}

func TestNumber(t *testing.T) {
	for name, want := range map[string]int{
		"'a": 0, "'b": 1, "'z": 25, "'a1": 26, "'b1": 27, "'z1": 51, "'a2": 52, "'z9": 259, "'a10": 260, "'d99": 26*99 + 3,
		"'l41297762": 1<<30 - 1, "'a41297762": 26 * 41297762,
	} {
		if got, ok := signature.Number(name); !ok || got != want {
			t.Errorf("Number(%q) = %d, %v, want %d", name, got, ok, want)
		}
	}
	for _, name := range []string{
		"", "'", "a", "ab", "'A", "'`", "'{", "''", "'1", "' ", "'a0", "'b00", "'a01", "'a+1", "'a-1", "'a 1", "'a1 ", " 'a", "'a ", "'ab", "'a1x",
		"'a1_0", "'a0x1", "a1", "1", "\"a", "'\xe4", "'a\x00", "'a\xff", "int", "'a -> 'a",
		"'m41297762", "'z41297762", "'a41297763", "'a1073741824", "'a9223372036854775807", "'a9223372036854775808", "'a18446744073709551616",
		"'a-18446744073709551615", "'a709490156681136601", "'q709490156681136600", "'a" + strings.Repeat("9", 5000), "'a" + strings.Repeat("0", 5000) + "1",
	} {
		if got, ok := signature.Number(name); ok || got != 0 {
			t.Errorf("Number(%q) = %d, %v, want none", name, got, ok)
		}
	}
	for n := range 3000 {
		if got, ok := signature.Number(types.Name(n)); !ok || got != n {
			t.Errorf("Number of the name of %d = %d, %v", n, got, ok)
		}
	}
}

// P4.2

func TestRead(t *testing.T) {
	ints := func(n int) api.Type { return tuple(slices.Repeat([]api.Type{number()}, n)...) }
	wantRead(t, "(int * bool) -> int", 0, 0, 9, arrow(tuple(number(), truth()), number()), 7)
	wantRead(t, "int", 0, 0, 9, number(), 1)
	wantRead(t, "bool", 0, 0, 9, truth(), 1)
	wantRead(t, "int -> bool -> int", 0, 0, 9, arrow(number(), arrow(truth(), number())), 5)
	wantRead(t, "(int -> bool) -> int", 0, 0, 9, arrow(arrow(number(), truth()), number()), 7)
	wantRead(t, "((int)) -> (bool)", 0, 0, 9, arrow(number(), truth()), 9)
	wantRead(t, "(((int * bool)))", 0, 0, 9, tuple(number(), truth()), 9)
	wantRead(t, "(int -> bool * int -> int)", 0, 0, 9, tuple(arrow(number(), truth()), arrow(number(), number())), 9)
	wantRead(t, "((int * bool) * int * (bool * int -> int))", 0, 0, 9,
		tuple(tuple(number(), truth()), number(), tuple(truth(), arrow(number(), number()))), 17)
	wantRead(t, "int->(bool*int)->(int)->int", 0, 0, 9,
		arrow(number(), arrow(tuple(truth(), number()), arrow(number(), number()))), 13)
	for n := 2; n <= 8; n++ {
		wantRead(t, row(n, "int"), 0, 0, 9, ints(n), 2*n+1)
	}
}

func TestReadIsAsLongAsItCanBe(t *testing.T) {
	wantRead(t, "x : int) y", 2, 0, 9, number(), 3)
	wantRead(t, "int int", 0, 0, 9, number(), 1)
	wantRead(t, "int * int", 0, 0, 9, number(), 1)
	wantRead(t, "int -> bool * int", 0, 0, 9, arrow(number(), truth()), 3)
	wantRead(t, "int -> bool)", 0, 0, 9, arrow(number(), truth()), 3)
	wantRead(t, "int -> bool (", 0, 0, 9, arrow(number(), truth()), 3)
	wantRead(t, "(int * bool) (int)", 0, 0, 9, tuple(number(), truth()), 5)
	wantRead(t, "(int * bool) -> int", 1, 0, 9, number(), 2)
	wantRead(t, "(int * bool) -> int", 3, 0, 9, truth(), 4)
	wantRead(t, "(int -> bool) -> int", 1, 0, 9, arrow(number(), truth()), 4)
	l := tokens(t, "int -> bool")
	if got, place, e := signature.Read(l[:3], 0, 0, 9); e != api.OK || place != 3 || !types.Same(got, arrow(number(), truth())) {
		t.Errorf("without an End: %v, %d, %d", got, place, e)
	}
	if got, place, e := signature.Read(l[:1], 0, 0, 9); e != api.OK || place != 1 || !types.Same(got, number()) {
		t.Errorf("of fewer tokens: %v, %d, %d", got, place, e)
	}
}

func TestTokensThatAreWrong(t *testing.T) {
	for s, place := range map[string]int{
		"": 0, "x": 0, "1": 0, "fun": 0, "true": 0, ")": 0, "->": 0, "*": 0, ",": 0, ":": 0, "=": 0,
		"(": 1, "()": 1, "(x": 1, "((": 2, "(->": 1, "(* int)": 1, "(int": 2, "(int x": 2, "(int int)": 2, "(int (": 2, "(int, int)": 2, "(int =": 2,
		"int ->": 2, "int -> )": 2, "int -> ->": 2, "int -> *": 2, "int -> x": 2, "int -> (": 3, "int -> int ->": 4,
		"(int ->": 3, "(int -> )": 3, "(int -> int": 4, "(int *": 3, "(int * )": 3, "(int * *": 3, "(int * int": 4, "(int * int x)": 4,
		"(int * int -> )": 5, "((int) bool)": 4, "((int * int) (": 6, "(int * (int * int)": 8, "(int) -> in": 4,
	} {
		wantWrong(t, s, 0, 0, 9, place, api.ErrForm)
		wantWrong(t, ": "+s, 1, 0, 9, place+1, api.ErrForm)
		l := tokens(t, s)
		if place == len(l)-1 {
			wantWrongTokens(t, l[:place], 0, 0, 9, place, api.ErrForm)
		}
	}
}

func TestPlacesOutside(t *testing.T) {
	l := tokens(t, "int -> int")
	for _, at := range []int{4, 5, 1000, math.MaxInt, -1, -4, math.MinInt} {
		wantWrongTokens(t, l, at, 0, 9, at, api.ErrForm)
		wantWrongTokens(t, l, at, 9, 9, at, api.ErrForm)
		wantWrongTokens(t, l, at, 10, 9, at, api.ErrDeep)
	}
	wantWrongTokens(t, l, 3, 0, 9, 3, api.ErrForm)
	wantWrongTokens(t, nil, 0, 0, 9, 0, api.ErrForm)
	wantWrongTokens(t, nil, 0, 1, 0, 0, api.ErrDeep)
	wantWrongTokens(t, nil, 1, 0, 0, 1, api.ErrForm)
}

func TestTokensThatNoTextHas(t *testing.T) {
	for _, x := range []api.Token{
		{}, {Kind: api.End, Text: "int"}, {Kind: api.Name, Text: "int"}, {Kind: api.Sign, Text: "int"}, {Kind: api.Number, Text: "bool"},
		{Kind: 99, Text: "int"}, {Kind: -1, Text: "bool"}, {Kind: api.Word, Text: "'a"}, {Kind: api.Name, Text: "'a"}, {Kind: api.Word, Text: ""},
		{Kind: api.Word, Text: "int "}, {Kind: api.End, Text: "("}, {Kind: api.Word, Text: "("},
	} {
		word := api.Token{Kind: api.Word, Text: "int"}
		wantWrongTokens(t, []api.Token{x, word}, 0, 0, 9, 0, api.ErrForm)
		wantWrongTokens(t, []api.Token{word, {Kind: api.Sign, Text: "->"}, x, word}, 0, 0, 9, 2, api.ErrForm)
		wantWrongTokens(t, []api.Token{{Kind: api.Sign, Text: "("}, word, x}, 0, 0, 9, 2, api.ErrForm)
	}
	for _, end := range []string{"->", ")", "*"} {
		l := []api.Token{{Kind: api.Sign, Text: "("}, {Kind: api.Word, Text: "int"}, {Kind: api.End, Text: end}}
		wantWrongTokens(t, l, 0, 0, 9, 2, api.ErrForm)
	}
}

func TestLevels(t *testing.T) {
	for _, c := range []struct {
		s           string
		need, place int // how many levels are above the outermost one; the first token of the first of the deepest types
	}{
		{"int", 0, 0}, {"(int)", 1, 1}, {"((int))", 2, 2}, {"int -> int", 1, 2}, {"int -> int -> int", 2, 4},
		{"(int -> int) -> int", 2, 3}, {"(int * int)", 1, 1}, {"(int * int -> int)", 2, 5}, {"(int -> int * int)", 2, 3},
		{"(int * (int * int) * int)", 2, 4}, {"int -> (int)", 2, 3}, {"((int -> int) -> int) -> int", 3, 4},
		{"(int) -> (int) -> ((int))", 4, 10}, {"(((int) -> int) -> int)", 3, 3},
	} {
		for _, level := range []int{1, 0, -7, 1000, math.MinInt, math.MaxInt - c.need} {
			l := tokens(t, c.s)
			if _, place, e := signature.Read(l, 0, level, level+c.need); e != api.OK || place != len(l)-1 {
				t.Errorf("Read(%q) from %d, up to %d: %d, %d", c.s, level, level+c.need, place, e)
			}
			if level+c.need > math.MinInt {
				wantWrongTokens(t, l, 0, level, level+c.need-1, c.place, api.ErrDeep)
			}
		}
	}
	wantRead(t, "((int))", 0, math.MinInt, math.MaxInt, number(), 5)
	wantWrong(t, "((int))", 0, math.MaxInt, math.MaxInt, 1, api.ErrDeep)
	wantWrong(t, "int -> int", 0, math.MaxInt, math.MaxInt, 2, api.ErrDeep)
	wantRead(t, "int", 0, math.MaxInt, math.MaxInt, number(), 1)
	wantWrong(t, "int", 0, math.MaxInt, math.MinInt, 0, api.ErrDeep)
}

func TestDeepIsToldFirst(t *testing.T) {
	wantWrong(t, "", 0, 1, 0, 0, api.ErrDeep)
	wantWrong(t, ")", 0, 1, 0, 0, api.ErrDeep)
	wantWrong(t, "x", 0, 1, 0, 0, api.ErrDeep)
	wantWrong(t, "(", 0, 0, 0, 1, api.ErrDeep)
	wantWrong(t, "()", 0, 0, 0, 1, api.ErrDeep)
	wantWrong(t, "int ->", 0, 0, 0, 2, api.ErrDeep)
	wantWrong(t, "int -> )", 0, 0, 0, 2, api.ErrDeep)
	wantWrong(t, "(int -> *", 0, 0, 1, 3, api.ErrDeep)
	// What is wrong further to the left is told ahead of it.
	wantWrong(t, "x (", 0, 0, 0, 0, api.ErrForm)
	wantWrong(t, "(int x (((int)))", 0, 0, 1, 2, api.ErrForm)
	wantWrong(t, "(int * int * (int) x", 0, 0, 1, 6, api.ErrDeep)
	// A level's end lets the next part begin as deep.
	wantRead(t, "((int) * (int) * int -> int)", 0, 0, 2, tuple(number(), number(), arrow(number(), number())), 13)
	wantRead(t, "((int)) -> (int)", 0, 0, 2, arrow(number(), number()), 9)
}

func TestNinthParts(t *testing.T) {
	eight := "(int" + strings.Repeat(" * int", 7)
	for _, rest := range []string{" *", " * int)", " * )", " * x", " * ((int"} {
		wantWrong(t, eight+rest, 0, 0, 1, 16, api.ErrMany)
		wantWrong(t, "int -> "+eight+rest, 0, 0, 9, 18, api.ErrMany)
		wantWrong(t, eight+") -> "+eight+rest, 0, 0, 9, 34, api.ErrMany)
		wantWrong(t, "("+eight+") * "+eight+rest, 0, 0, 9, 35, api.ErrMany)
		wantWrong(t, eight+" -> int"+rest, 0, 0, 9, 18, api.ErrMany)
	}
	wantWrong(t, eight, 0, 0, 9, 16, api.ErrForm)
	wantWrong(t, eight+" int", 0, 0, 9, 16, api.ErrForm)
	wantWrong(t, row(20, "int"), 0, 0, 9, 16, api.ErrMany)
	wantWrong(t, row(9, "(int * int)"), 0, 0, 9, 48, api.ErrMany)
	wantWrong(t, "(int * (int -> int)"+strings.Repeat(" * int", 7)+")", 0, 0, 3, 20, api.ErrMany)
	wantWrong(t, "(int * (int -> int)"+strings.Repeat(" * int", 7)+")", 0, 0, 2, 6, api.ErrDeep)
	wantRead(t, row(8, row(8, "int")), 0, 0, 2, tuple(slices.Repeat([]api.Type{tuple(slices.Repeat([]api.Type{number()}, 8)...)}, 8)...), 17*8+9)
}

func TestWhatIsHandedInStays(t *testing.T) {
	l := tokens(t, "(int * bool) -> int x y z")
	before := slices.Clone(l)
	first, _, _ := signature.Read(l[:7], 0, 0, 9)
	if !slices.Equal(l, before) {
		t.Error("Read changed its tokens")
	}
	first.Parts[0].Parts[0] = truth()
	first.Parts[0].Parts = append(first.Parts[0].Parts, truth())
	wantRead(t, "(int * bool) -> int x y z", 0, 0, 9, arrow(tuple(number(), truth()), number()), 7)
	parsed, _ := signature.Parse("('a * ('a -> 'a))")
	want := tuple(v(0), arrow(v(0), v(0)))
	parsed.Parts[1].Parts[0] = truth()
	if again, e := signature.Parse("('a * ('a -> 'a))"); e != api.OK || !types.Same(again, want) {
		t.Error("a changed answer is answered again", again)
	}
}

// P4.3, and P4.1, P4.2 by a second way

// typesOf is all types with that many places for these, in tuples of up to three parts.
func typesOf(places int, alone ...api.Type) []api.Type {
	if places == 1 {
		return alone
	}
	var l []api.Type
	for left := 1; left < places; left++ {
		for _, a := range typesOf(left, alone...) {
			for _, b := range typesOf(places-left, alone...) {
				l = append(l, arrow(a, b), tuple(a, b))
			}
		}
		for middle := 1; left+middle < places; middle++ {
			for _, a := range typesOf(left, alone...) {
				for _, b := range typesOf(middle, alone...) {
					for _, c := range typesOf(places-left-middle, alone...) {
						l = append(l, tuple(a, b, c))
					}
				}
			}
		}
	}
	return l
}

func TestWhatIsPrintedIsParsed(t *testing.T) {
	for places := 1; places <= 4; places++ {
		for _, x := range typesOf(places, number(), truth(), v(3), v(77)) {
			s := types.Print(x)
			if got, e := signature.Parse(s); e != api.OK || !types.Same(got, x) {
				t.Fatalf("Parse(%q) = %v, %d, want %v", s, got, e, x)
			}
		}
	}
}

func TestWhatIsPrintedIsRead(t *testing.T) {
	for places := 1; places <= 4; places++ {
		for _, x := range typesOf(places, number(), truth()) {
			l := tokens(t, types.Print(x))
			if got, place, e := signature.Read(l, 0, 1, 99); e != api.OK || place != len(l)-1 || !types.Same(got, x) {
				t.Fatalf("Read(%q) = %v, %d, %d, want %v", lex.Print(l...), got, place, e, x)
			}
		}
	}
}

// eachRow tells all lists of up to so many of these, as texts.
func eachRow(most int, of []string, visit func(l []string)) {
	rows := [][]string{nil}
	for range most {
		var longer [][]string
		for _, l := range rows {
			for _, s := range of {
				longer = append(longer, append(slices.Clone(l), s))
			}
		}
		for _, l := range longer {
			visit(l)
		}
		rows = longer
	}
}

func TestAllShortTexts(t *testing.T) {
	texts := map[string]bool{}
	for places := 1; places <= 4; places++ {
		for _, x := range typesOf(places, number(), v(0)) {
			texts[types.Print(x)] = true
		}
	}
	eachRow(7, []string{"int", "'a", "(", ")", " * ", " -> "}, func(l []string) {
		s := strings.Join(l, "")
		if got, e := signature.Parse(s); texts[s] != (e == api.OK) || types.Print(got) != s && e == api.OK || e != api.OK && e != api.ErrForm {
			t.Fatalf("Parse(%q) = %v, %d", s, got, e)
		}
	})
}

// second reads as the document says it, by calls within calls; what is wrong is a panic.
type second struct {
	l        []string
	at, most int
}

type wrong struct {
	place int
	e     api.Errno
}

func (s *second) sees(word string) bool { return s.at < len(s.l) && s.l[s.at] == word }

func (s *second) read(level int) api.Type {
	if level > s.most {
		panic(wrong{s.at, api.ErrDeep})
	}
	part := s.part(level)
	if !s.sees("->") {
		return part
	}
	s.at++
	return arrow(part, s.read(level+1))
}

func (s *second) part(level int) api.Type {
	switch {
	case s.sees("int"):
		s.at++
		return number()
	case s.sees("("):
		s.at++
		parts := []api.Type{s.read(level + 1)}
		for s.sees("*") {
			if len(parts) == 8 {
				panic(wrong{s.at, api.ErrMany})
			}
			s.at++
			parts = append(parts, s.read(level+1))
		}
		if s.sees(")") {
			s.at++
			if len(parts) == 1 {
				return parts[0]
			}
			return tuple(parts...)
		}
	}
	panic(wrong{s.at, api.ErrForm})
}

func (s *second) answer() (x api.Type, place int, e api.Errno) {
	defer func() {
		if w, ok := recover().(wrong); ok {
			x, place, e = api.Type{}, w.place, w.e
		}
	}()
	return s.read(0), s.at, api.OK
}

func TestAllShortTokens(t *testing.T) {
	words := []string{"int", "(", ")", "*", "->", "x"}
	eachRow(6, words, func(l []string) { checkTokens(t, l) })
	nearlyNine := strings.Fields("( int * int * int * int * int * int * int")
	eachRow(5, words, func(l []string) { checkTokens(t, append(slices.Clone(nearlyNine), l...)) })
	eachRow(5, []string{"int", "->", "( int", "( ( int", ") )", "* int", "-> int )"}, func(l []string) {
		checkTokens(t, strings.Fields(strings.Join(l, " ")))
	})
}

func checkTokens(t *testing.T, words []string) {
	t.Helper()
	l := tokens(t, strings.Join(words, " "))
	for most := -1; most <= 3; most++ {
		reader := second{l: words, most: most}
		want, wantPlace, wantE := reader.answer()
		got, place, e := signature.Read(l, 0, 0, most)
		if place != wantPlace || e != wantE || !types.Same(got, want) {
			t.Fatalf("Read(%q, 0, 0, %d) = %v, %d, %d, want %v, %d, %d", words, most, got, place, e, want, wantPlace, wantE)
		}
	}
}

func TestDeepTexts(t *testing.T) {
	defer debug.SetMaxStack(debug.SetMaxStack(4 << 20))
	many := func(s string) string { return strings.Repeat(s, deep) }
	for name, s := range map[string]string{
		"right": many("int -> ") + "'a",
		"left":  many("(") + "int -> int" + many(") -> 'a"),
		"rows":  many("(") + "int * int" + many(" * 'a)"),
		"ends":  many("(int * ") + "'a" + many(")"),
	} {
		if got, e := signature.Parse(s); e != api.OK || types.Depth(got) < deep || types.Print(got) != s {
			t.Errorf("%s: Parse: %d", name, e)
		}
	}
	for name, s := range map[string]string{
		"begun": many("("), "ended": many(")"), "brackets": many("(") + "int" + many(")"), "arrows": many("-> "), "no end": many("int -> "), "stars": many("(int * "),
	} {
		if _, e := signature.Parse(s); e != api.ErrForm {
			t.Errorf("%s: Parse: %d", name, e)
		}
	}
	brackets := many("(") + "int" + many(")")
	wantRead(t, brackets, 0, 0, deep, number(), 2*deep+1)
	wantWrong(t, brackets, 0, 0, deep-1, deep, api.ErrDeep)
	wantWrong(t, many("("), 0, 0, math.MaxInt, deep, api.ErrForm)
	wantWrong(t, many("int -> "), 0, 0, math.MaxInt, 2*deep, api.ErrForm)
	wantWrong(t, many("int -> "), 0, 0, deep-1, 2*deep, api.ErrDeep)
}
