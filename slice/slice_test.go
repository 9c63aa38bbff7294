package slice_test

import (
	"math"
	"math/rand/v2"
	"runtime/debug"
	"slices"
	"strings"
	"testing"

	"pangram/api"
	"pangram/eqs"
	"pangram/mus"
	"pangram/parse"
	"pangram/slice"
	"pangram/span"
	"pangram/term"
)

const deep = 1 << 16 // levels: calls within calls as deep would take more than the stack that TestDeepTerms gives

func at(from, to int) api.Span { return api.Span{From: from, To: to} }

func list(l ...api.Span) []api.Span { return l }

func number() api.Type { return api.Type{Kind: api.TInt} }

// charged is equations that are charged with spans.
func charged(l ...api.Span) []api.Eq {
	var all []api.Eq
	for _, s := range l {
		all = append(all, api.Eq{L: number(), R: number(), At: s})
	}
	return all
}

func variable(name string) api.Term { return api.Term{Kind: api.Var, Name: name} }

func node(kind int, parts ...api.Term) api.Term { return api.Term{Kind: kind, Parts: parts} }

func named(kind int, name string, parts ...api.Term) api.Term {
	return api.Term{Kind: kind, Name: name, Parts: parts}
}

func spanned(x api.Term, s api.Span) api.Term {
	x.At = s
	return x
}

// read is the term of a text, with spans.
func read(t *testing.T, s string) api.Term {
	t.Helper()
	x, _, e := parse.Term(s, 1000)
	if e != api.OK {
		t.Fatalf("no term: %q", s)
	}
	return x
}

// wrongTerms is terms that aren't right, by what is wrong with them; all of them have bytes.
func wrongTerms() map[string]api.Term {
	x := spanned(variable("x"), at(0, 1))
	return map[string]api.Term{
		"the zero one":                   {},
		"no kind, but bytes":             {At: at(0, 1)},
		"a kind above 10":                spanned(node(11, x), at(0, 3)),
		"no name":                        spanned(variable(""), at(0, 1)),
		"a word as name":                 spanned(variable("let"), at(0, 3)),
		"a variable below 0":             {Kind: api.Var, Name: "x", N: -1, At: at(0, 1)},
		"a number below 0":               {Kind: api.Int, N: -1, At: at(0, 2)},
		"a function without parts":       spanned(named(api.Lam, "x"), at(0, 3)),
		"an application of one":          spanned(node(api.App, x), at(0, 3)),
		"a tuple of one":                 spanned(node(api.Tuple, x), at(0, 3)),
		"a tuple of nine":                spanned(node(api.Tuple, slices.Repeat([]api.Term{x}, 9)...), at(0, 3)),
		"an annotation of no type":       spanned(node(api.Ann, x), at(0, 3)),
		"one that isn't right, inside":   spanned(named(api.Lam, "x", spanned(node(api.App, x, spanned(api.Term{}, at(2, 3))), at(0, 3))), at(0, 4)),
		"a type where there is none":     {Kind: api.Int, Type: number(), At: at(0, 1)},
		"a part where there is none":     spanned(node(api.Bool, x), at(0, 3)),
		"an annotation with a variable":  {Kind: api.Ann, Type: api.Type{Kind: api.TVar}, Parts: []api.Term{x}, At: at(0, 3)},
		"a wrong one ahead of right one": spanned(node(api.App, spanned(variable("X"), at(0, 1)), x), at(0, 3)),
	}
}

// P20.1

func TestOf(t *testing.T) {
	l := charged(at(4, 6), at(0, 2), at(2, 3), at(9, 9), at(4, 6), at(5, 8), at(7, 1), at(-3, -1), at(math.MaxInt-1, math.MaxInt))
	for _, c := range []struct {
		numbers []int
		want    []api.Span
	}{
		{nil, nil},
		{[]int{0}, list(at(4, 6))},
		{[]int{0, 4}, list(at(4, 6))},
		{[]int{0, 0, 0}, list(at(4, 6))},
		{[]int{0, 1}, list(at(0, 2), at(4, 6))},
		{[]int{1, 0}, list(at(0, 2), at(4, 6))},
		{[]int{2, 1}, list(at(0, 3))},
		{[]int{0, 5}, list(at(4, 8))},
		{[]int{5, 2, 0, 1}, list(at(0, 3), at(4, 8))},
		{[]int{3}, nil},
		{[]int{6, 3}, nil},
		{[]int{3, 1, 6}, list(at(0, 2))},
		{[]int{7, 0}, list(at(-3, -1), at(4, 6))},
		{[]int{8, 2}, list(at(2, 3), at(math.MaxInt-1, math.MaxInt))},
		{[]int{-1}, nil},
		{[]int{9}, nil},
		{[]int{9, 0, -1}, list(at(4, 6))},
		{[]int{math.MinInt, 1, math.MaxInt}, list(at(0, 2))},
		{[]int{0, 1, 2, 3, 4, 5, 6, 7, 8}, list(at(-3, -1), at(0, 3), at(4, 8), at(math.MaxInt-1, math.MaxInt))},
	} {
		if got := slice.Of(l, c.numbers...); !slices.Equal(got, c.want) {
			t.Errorf("Of %v: %v, want %v", c.numbers, got, c.want)
		}
	}
	if got := slice.Of(nil, 0, 1); len(got) != 0 {
		t.Errorf("Of no equations: %v", got)
	}
}

// Whether the sides are right doesn't matter.
func TestOfSidesThatArentRight(t *testing.T) {
	if got := slice.Of([]api.Eq{{At: at(1, 2)}}, 0); !slices.Equal(got, list(at(1, 2))) {
		t.Errorf("%v", got)
	}
}

func TestMarked(t *testing.T) {
	for what, c := range map[string]struct {
		text string
		l    []api.Span
		want string
	}{
		"the document's example": {"f x", list(at(2, 3)), "f «x»"},
		"none":                   {"f x", nil, "f x"},
		"all":                    {"f x", list(at(0, 3)), "«f x»"},
		"two":                    {"(f x, g)", list(at(6, 7), at(1, 2)), "(«f» x, «g»)"},
		"two that touch":         {"f x y", list(at(2, 3), at(3, 5)), "f «x y»"},
		"two that cross":         {"f x y", list(at(0, 3), at(2, 4)), "«f x »y"},
		"one in another":         {"f x y", list(at(0, 5), at(2, 3)), "«f x y»"},
		"the same twice":         {"f x y", list(at(2, 3), at(2, 3)), "f «x» y"},
		"one byte between":       {"f x y", list(at(0, 2), at(3, 5)), "«f »x« y»"},
		"a blank":                {"f x", list(at(1, 2)), "f« »x"},
		"without bytes":          {"f x", list(at(1, 1), at(2, 0), at(0, 0), at(3, 3)), "f x"},
		"ahead of the text":      {"f x", list(at(-5, 0), at(-9, -7)), "f x"},
		"behind the text":        {"f x", list(at(3, 9), at(11, 12)), "f x"},
		"beyond both ends":       {"f x", list(at(-2, 1), at(2, 7)), "«f» «x»"},
		"all, and beyond":        {"f x", list(at(math.MinInt, math.MaxInt)), "«f x»"},
		"the ends of int":        {"f x", list(at(math.MaxInt, math.MinInt), at(2, math.MaxInt)), "f «x»"},
		"an empty text":          {"", list(at(0, 0), at(-1, 1)), ""},
		"lines":                  {"f\nx\n", list(at(0, 2), at(3, 4)), "«f\n»x«\n»"},
		"bytes, not letters":     {"\xc3\xa4\xff", list(at(1, 2)), "\xc3\xc2\xab\xa4\xc2\xbb\xff"},
		"marks":                  {"«x»", list(at(2, 3)), "««x»»"},
		"a byte of a mark":       {"«", list(at(0, 1)), "\xc2\xab\xc2\xc2\xbb\xab"},
	} {
		if got := slice.Marked(c.text, c.l...); got != c.want {
			t.Errorf("%s: Marked(%q, %v) = %q, want %q", what, c.text, c.l, got, c.want)
		}
	}
	if got := slice.Marked("x", at(0, 1)); got != "\xc2\xabx\xc2\xbb" {
		t.Errorf("bytes of the marks: %x", got)
	}
}

func TestSkeleton(t *testing.T) {
	for what, c := range map[string]struct {
		text string
		l    []api.Span
		want string
	}{
		"the document's example":      {"f x", list(at(2, 3)), "..x"},
		"none":                        {"f x", nil, ".."},
		"none of blanks":              {" \t\r\n", nil, ""},
		"none of one byte":            {"x", nil, ".."},
		"none among blanks":           {"  x  ", nil, ".."},
		"none of an empty text":       {"", nil, ""},
		"none that has bytes":         {"f x", list(at(1, 1), at(2, 0)), ".."},
		"none in the text":            {"f x", list(at(3, 9), at(-4, 0)), ".."},
		"none in an empty text":       {"", list(at(-1, 1)), ""},
		"none in blanks":              {"  ", list(at(2, 9), at(-4, 0)), ""},
		"all":                         {"f x", list(at(0, 3)), "f x"},
		"all, and beyond":             {"f x", list(at(math.MinInt, math.MaxInt)), "f x"},
		"behind":                      {"f x", list(at(0, 1)), "f.."},
		"between":                     {"f x y", list(at(0, 1), at(4, 5)), "f..y"},
		"ahead, between, behind":      {"(f x, g)", list(at(6, 7), at(1, 2)), "..f..g.."},
		"blanks between":              {"f x", list(at(0, 1), at(2, 3)), "fx"},
		"blanks ahead":                {"  f x", list(at(2, 5)), "f x"},
		"blanks behind":               {"f x \n", list(at(0, 3)), "f x"},
		"blanks ahead and behind":     {" f ", list(at(1, 2)), "f"},
		"each kind of blanks":         {"a b\tc\nd\re", list(at(0, 1), at(2, 3), at(4, 5), at(6, 7), at(8, 9)), "abcde"},
		"many blanks":                 {"a \t\n\r b", list(at(0, 1), at(6, 7)), "ab"},
		"blanks that it has":          {"a b c", list(at(1, 2), at(3, 4)), ".. .. .."},
		"a byte among blanks":         {"a  x  b", list(at(0, 1), at(6, 7)), "a..b"},
		"a dot":                       {"a.b", list(at(0, 1), at(2, 3)), "a..b"},
		"dots that it has":            {"a..b", list(at(1, 3)), "......"},
		"no blanks: a vertical tab":   {"a\vb", list(at(0, 1), at(2, 3)), "a..b"},
		"no blanks: a form feed":      {"a\fb", list(at(0, 1), at(2, 3)), "a..b"},
		"no blanks: a zero":           {"a\x00b", list(at(0, 1), at(2, 3)), "a..b"},
		"no blanks: a wide one":       {"a\u00a0b", list(at(0, 1), at(3, 4)), "a..b"},
		"no blanks: a line's end":     {"a\u0085b", list(at(0, 1), at(3, 4)), "a..b"},
		"no blanks: a wrong byte":     {"a\xffb", list(at(0, 1), at(2, 3)), "a..b"},
		"two that touch":              {"f x y", list(at(2, 3), at(3, 5)), "..x y"},
		"two that cross":              {"f x y", list(at(0, 3), at(2, 4)), "f x .."},
		"beyond both ends":            {"f g x", list(at(-2, 1), at(4, 7)), "f..x"},
		"beyond both ends, no blanks": {"f x", list(at(-2, 1), at(2, 7)), "fx"},
		"bytes, not letters":          {"\xc3\xa4\xff", list(at(1, 2)), "..\xa4.."},
		"lines":                       {"let y = 1\nin y", list(at(8, 9), at(13, 14)), "..1..y"},
	} {
		if got := slice.Skeleton(c.text, c.l...); got != c.want {
			t.Errorf("%s: Skeleton(%q, %v) = %q, want %q", what, c.text, c.l, got, c.want)
		}
	}
}

// P20.2

func TestLines(t *testing.T) {
	const text = "ab\ncd\n\nef"
	for what, c := range map[string]struct {
		text string
		l    []api.Span
		want []int
	}{
		"none":                   {text, nil, nil},
		"the first one":          {text, list(at(0, 1)), []int{1}},
		"one line twice":         {text, list(at(0, 1), at(1, 2)), []int{1}},
		"one line, apart":        {"abc", list(at(0, 1), at(2, 3)), []int{1}},
		"a line feed":            {text, list(at(2, 3)), []int{1}},
		"behind a line feed":     {text, list(at(3, 4)), []int{2}},
		"both":                   {text, list(at(2, 4)), []int{1, 2}},
		"a line feed alone":      {text, list(at(6, 7)), []int{3}},
		"the last one":           {text, list(at(8, 9)), []int{4}},
		"not rising":             {text, list(at(7, 8), at(4, 5), at(0, 1)), []int{1, 2, 4}},
		"over lines":             {text, list(at(1, 8)), []int{1, 2, 3, 4}},
		"over lines, crossing":   {text, list(at(4, 9), at(1, 5)), []int{1, 2, 3, 4}},
		"all":                    {text, list(at(math.MinInt, math.MaxInt)), []int{1, 2, 3, 4}},
		"ahead of the text":      {text, list(at(-3, 0)), nil},
		"behind the text":        {text, list(at(9, 12)), nil},
		"beyond both ends":       {text, list(at(8, 12), at(-3, 1)), []int{1, 4}},
		"without bytes":          {text, list(at(4, 4), at(5, 1)), nil},
		"an empty text":          {"", list(at(-3, 3)), nil},
		"behind the last feed":   {"a\n", list(at(2, 3)), nil},
		"the last feed":          {"a\n", list(at(1, 9)), []int{1}},
		"line feeds":             {"\n\n\n", list(at(0, 1), at(2, 3)), []int{1, 3}},
		"carriage returns":       {"a\rb\r\nc", list(at(2, 3), at(5, 6)), []int{1, 2}},
		"two slices of one line": {"a\nb c\nd", list(at(0, 3), at(4, 7)), []int{1, 2, 3}},
		"bytes, not letters":     {"\xff\n\xc3\xa4\n", list(at(3, 4), at(0, 1)), []int{1, 2}},
	} {
		if got := slice.Lines(c.text, c.l...); !slices.Equal(got, c.want) {
			t.Errorf("%s: Lines(%q, %v) = %v, want %v", what, c.text, c.l, got, c.want)
		}
	}
}

func TestBlamed(t *testing.T) {
	// f x: 0 to 3; f: 0 to 1; x: 2 to 3
	for what, c := range map[string]struct {
		text string
		l    []api.Span
		want []int
	}{
		"none":                  {"f x", nil, nil},
		"all":                   {"f x", list(at(0, 3)), []int{0, 1, 2}},
		"all, and beyond":       {"f x", list(at(math.MinInt, math.MaxInt)), []int{0, 1, 2}},
		"one":                   {"f x", list(at(2, 3)), []int{2}},
		"one, and a blank":      {"f x", list(at(1, 3)), []int{2}},
		"all but a blank":       {"f x", list(at(0, 1), at(2, 3)), []int{1, 2}},
		"all, in pieces":        {"f x", list(at(2, 3), at(0, 1), at(1, 2)), []int{0, 1, 2}},
		"all, crossing":         {"f x", list(at(1, 3), at(0, 2)), []int{0, 1, 2}},
		"a blank":               {"f x", list(at(1, 2)), nil},
		"behind":                {"f x", list(at(3, 9)), nil},
		"ahead":                 {"f x", list(at(-9, 0)), nil},
		"without bytes":         {"f x", list(at(1, 1), at(3, 0)), nil},
		"a part of a name":      {"foo xx", list(at(0, 2), at(5, 6)), nil},
		"one of a function":     {"fun x -> x", list(at(9, 10)), []int{1}},
		"a binder is no term":   {"fun x -> x", list(at(0, 9)), nil},
		"a whole in brackets":   {"(f x)", list(at(1, 4)), []int{0, 1, 2}},
		"brackets of a tuple":   {"(1, 2)", list(at(1, 5)), []int{1, 2}},
		"terms in order":        {"(f x, fun y -> (y, 1))", list(at(16, 17), at(19, 20), at(1, 4)), []int{1, 2, 3, 6, 7}},
		"the last one of many":  {"let a = 1 in (a, a, 22)", list(at(20, 22)), []int{5}},
		"an annotation's part":  {"(1 : int)", list(at(1, 2), at(5, 8)), []int{1}},
		"one that others touch": {"if a then b else c", list(at(2, 5), at(10, 11)), []int{1, 2}},
	} {
		x := read(t, c.text)
		want := c.want
		if got := slice.Blamed(x, c.l...); !slices.Equal(got, want) {
			t.Errorf("%s: Blamed(%q, %v) = %v, want %v", what, c.text, c.l, got, want)
		}
		if got := blamed(x, c.l); !slices.Equal(got, want) {
			t.Errorf("%s: %q, %v: byte by byte %v, want %v", what, c.text, c.l, got, want)
		}
	}
}

func TestBlamedByAnySpans(t *testing.T) {
	x := variable("x")
	y := spanned(node(api.App, spanned(x, at(-5, -3)), spanned(node(api.Tuple,
		spanned(x, at(4, 4)), spanned(x, at(7, 2)), spanned(x, at(math.MinInt, math.MaxInt)), spanned(x, at(2, 9)), x), at(9, 12))), at(1, 3))
	for _, c := range []struct {
		l    []api.Span
		want []int
	}{
		{list(at(math.MinInt, math.MaxInt)), []int{0, 1, 2, 5, 6}},
		{list(at(0, 100)), []int{0, 2, 6}},
		{list(at(-5, -3)), []int{1}},
		{list(at(-4, -3), at(-5, -4)), []int{1}},
		{list(at(-5, -4), at(1, 2)), nil},
		{list(at(2, 9)), []int{6}},
		{list(at(9, 12), at(2, 9)), []int{2, 6}},
		{list(at(9, 11)), nil},
		{list(at(math.MinInt, 0), at(0, math.MaxInt)), []int{0, 1, 2, 5, 6}},
		{list(at(math.MinInt, 0), at(1, math.MaxInt)), []int{0, 1, 2, 6}},
		{nil, nil},
	} {
		if got := slice.Blamed(y, c.l...); !slices.Equal(got, c.want) {
			t.Errorf("%v: %v, want %v", c.l, got, c.want)
		}
	}
}

func TestBlamedOfWrongTerms(t *testing.T) {
	for what, x := range wrongTerms() {
		if got := slice.Blamed(x, at(-100, 100)); len(got) != 0 {
			t.Errorf("%s: %v", what, got)
		}
	}
}

// P20.1 to P20.3, byte by byte

// has tells for each byte of a text whether spans have it.
func has(text string, l []api.Span) []bool {
	marks := make([]bool, len(text))
	for i := range marks {
		marks[i] = slices.ContainsFunc(l, func(s api.Span) bool { return s.From <= i && i < s.To })
	}
	return marks
}

func marked(text string, l []api.Span) string {
	marks := has(text, l)
	s := ""
	for i := range len(text) {
		if marks[i] && (i == 0 || !marks[i-1]) {
			s += "«"
		}
		s += text[i : i+1]
		if marks[i] && (i == len(text)-1 || !marks[i+1]) {
			s += "»"
		}
	}
	return s
}

func skeleton(text string, l []api.Span) string {
	s := ""
	leftOut := false
	for i, has := range has(text, l) {
		switch {
		case has && leftOut:
			s += ".." + text[i:i+1]
			leftOut = false
		case has:
			s += text[i : i+1]
		case text[i] != ' ' && text[i] != '\t' && text[i] != '\n' && text[i] != '\r':
			leftOut = true
		}
	}
	if leftOut {
		s += ".."
	}
	return s
}

func lines(text string, l []api.Span) []int {
	var lines []int
	for i, has := range has(text, l) {
		if line, _ := span.Place(text, i); has {
			lines = append(lines, line)
		}
	}
	return slices.Compact(lines)
}

// blamed is the numbers of terms that spans have, by calls within calls.
func blamed(x api.Term, l []api.Span) []int {
	var numbers []int
	next := 0
	var through func(x api.Term)
	through = func(x api.Term) {
		all := x.At.From < x.At.To
		for i := x.At.From; i < x.At.To; i++ {
			all = all && span.Has(i, l...)
		}
		if all {
			numbers = append(numbers, next)
		}
		next++
		for _, part := range x.Parts {
			through(part)
		}
	}
	through(x)
	return numbers
}

// hold holds what is told of a text and spans against what comes byte by byte.
func hold(t *testing.T, text string, l []api.Span) {
	t.Helper()
	if got, want := slice.Marked(text, l...), marked(text, l); got != want {
		t.Fatalf("Marked(%q, %v) = %q, want %q", text, l, got, want)
	}
	if got, want := slice.Skeleton(text, l...), skeleton(text, l); got != want {
		t.Fatalf("Skeleton(%q, %v) = %q, want %q", text, l, got, want)
	}
	if got, want := slice.Lines(text, l...), lines(text, l); !slices.Equal(got, want) {
		t.Fatalf("Lines(%q, %v) = %v, want %v", text, l, got, want)
	}
	var numbers []int
	for i := range l {
		numbers = append(numbers, len(l)-1-i)
	}
	if got, want := slice.Of(charged(l...), numbers...), span.Merge(l...); !slices.Equal(got, want) {
		t.Fatalf("Of %v = %v, want %v", l, got, want)
	}
	unmarked := strings.NewReplacer("«", "", "»", "").Replace(slice.Marked(text, l...))
	if unmarked != text {
		t.Fatalf("Marked(%q, %v), without the marks: %q", text, l, unmarked)
	}
}

// smallTexts is texts of up to n of some bytes.
func smallTexts(n int, bytes ...string) []string {
	l := []string{""}
	for from := 0; n > 0; n-- {
		to := len(l)
		for _, s := range l[from:to] {
			for _, b := range bytes {
				l = append(l, s+b)
			}
		}
		from = to
	}
	return l
}

// smallSpans is spans from below 0 to beyond texts of n bytes.
func smallSpans(n int) []api.Span {
	var l []api.Span
	for from := -1; from <= n+1; from++ {
		for to := -1; to <= n+1; to++ {
			l = append(l, at(from, to))
		}
	}
	return l
}

func TestSmallTexts(t *testing.T) {
	const n = 5
	spans := smallSpans(n)
	for _, text := range smallTexts(n, "x", " ", "\n") {
		hold(t, text, nil)
		for i, a := range spans {
			for _, b := range spans[:i+1] {
				hold(t, text, list(a, b))
			}
		}
	}
}

// chance gives texts, spans and terms, the same ones whenever the tests run.
type chance struct{ *rand.Rand }

func begin(n uint64) chance { return chance{rand.New(rand.NewPCG(n, 20))} }

func (c chance) text(n int) string {
	s := ""
	for range n {
		s += string("  \t\r\n\nab.\xff\v"[c.IntN(11)])[:1]
	}
	return s
}

func (c chance) span(n int) api.Span {
	from := c.IntN(n+4) - 2
	return at(from, from+c.IntN(5)-1)
}

func (c chance) spans(most, n int) []api.Span {
	var l []api.Span
	for range c.IntN(most + 1) {
		l = append(l, c.span(n))
	}
	return l
}

func (c chance) term(depth, n int) api.Term {
	part := func() api.Term { return c.term(depth-1, n) }
	x := variable("x")
	if depth > 0 {
		switch c.IntN(6) {
		case 0:
			x = named(api.Lam, "x", part())
		case 1:
			x = node(api.App, part(), part())
		case 2:
			x = named(api.Let, "x", part(), part())
		case 3:
			x = node(api.If, part(), part(), part())
		case 4:
			x = node(api.Tuple, part(), part(), part(), part())
		case 5:
			x = api.Term{Kind: api.Ann, Type: number(), Parts: []api.Term{part()}}
		}
	}
	return spanned(x, c.span(n))
}

func TestTextsByChance(t *testing.T) {
	by := begin(1)
	for range 20000 {
		n := by.IntN(40)
		hold(t, by.text(n), by.spans(8, n))
	}
}

func TestBlamedByChance(t *testing.T) {
	by := begin(2)
	some := 0
	for range 20000 {
		n := by.IntN(30)
		x, l := by.term(by.IntN(4), n), by.spans(10, n)
		want := blamed(x, l)
		if got := slice.Blamed(x, l...); !slices.Equal(got, want) {
			t.Fatalf("%v, %v: %v, want %v", term.Spans(x), l, got, want)
		}
		if len(want) > 0 {
			some++
		}
	}
	if some < 5000 {
		t.Errorf("%d terms have some", some)
	}
}

// of equations that are to blame

// What is told of texts whose terms have no type.
func TestSlicesOfTexts(t *testing.T) {
	for text, want := range map[string]struct{ marked, skeleton string }{
		"1 true":                                          {"«1 true»", "1 true"},
		"(1 : bool)":                                      {"(«1» : bool)", "..1.."},
		"fun x -> x x":                                    {"fun x -> «x x»", "..x x"},
		"fun f -> (f 1, f true)":                          {"fun f -> («f 1», «f true»)", "..f 1..f true.."},
		"if 1 then 2 else 3":                              {"if «1» then 2 else 3", "..1.."},
		"let a = 1 in if true then a 2 else a":            {"let a = «1» in if true then «a 2» else a", "..1..a 2.."},
		"fun x ->\n  if x then 1\n  else x":               {"fun x ->\n  if «x» then «1»\n  else «x»", "..x..1..x"},
		"let i = fun x -> x in (i 1, i true) 2":           {"let i = fun x -> x in «(i 1, i true) 2»", "..(i 1, i true) 2"},
		"(fun f -> f 1) (fun x -> if x then 1 else true)": {"(fun f -> f 1) (fun x -> if x then «1» else «true»)", "..1..true.."},
	} {
		l, _ := eqs.Of(read(t, text), math.MaxInt)
		core, e := mus.Core(l...)
		spans := slice.Of(l, core...)
		if e != api.OK || slice.Marked(text, spans...) != want.marked || slice.Skeleton(text, spans...) != want.skeleton {
			t.Errorf("%q: %q, %q, %v", text, slice.Marked(text, spans...), slice.Skeleton(text, spans...), e)
		}
	}
}

// What a core's equations are charged with the slices have, and nothing else; they rise, none touches another one.
func TestSlicesOfCores(t *testing.T) {
	for _, text := range []string{
		"fun f -> (f 1, f true)", "let i = fun x -> x x in i", "fun x -> (x 1, if x then 1 else 2)", "let rec f = fun x -> f in f f",
		"(fun a -> fun b -> (a b, b a)) (fun c -> c) 1", "let p = fun a ->\n (a, a)\nin (p 1 : int)",
	} {
		x := read(t, text)
		l, _ := eqs.Of(x, math.MaxInt)
		core, e := mus.Core(l...)
		spans := slice.Of(l, core...)
		if e != api.OK || len(spans) == 0 || !span.Right(len(text), spans...) {
			t.Fatalf("%q: %v, %v", text, spans, e)
		}
		var all []api.Span
		for _, i := range core {
			all = append(all, l[i].At)
		}
		if !span.Within(spans, all) || !span.Within(all, spans) {
			t.Errorf("%q: %v of %v", text, spans, all)
		}
		for i, s := range spans {
			if s.From >= s.To || i > 0 && spans[i-1].To >= s.From {
				t.Errorf("%q: %v", text, spans)
			}
		}
		hold(t, text, spans)
		// Each term with which one of them is charged is blamed.
		blamed := slice.Blamed(x, spans...)
		for i, y := range term.All(x) {
			if slices.Contains(all, y.At) && !slices.Contains(blamed, i) {
				t.Errorf("%q: the term %d isn't blamed", text, i)
			}
		}
	}
}

// deep and long ones

func TestDeepTerms(t *testing.T) {
	defer debug.SetMaxStack(debug.SetMaxStack(1 << 20))
	x := spanned(variable("x"), at(deep, deep+1))
	for i := deep - 1; i >= 0; i-- {
		x = spanned(named(api.Lam, "x", x), at(i, deep+1))
	}
	if got := slice.Blamed(x, at(deep-2, deep+1)); !slices.Equal(got, []int{deep - 2, deep - 1, deep}) {
		t.Errorf("%v", got)
	}
	x.Parts[0].Parts[0].Parts[0].Name = ""
	if got := slice.Blamed(x, at(0, deep+1)); len(got) != 0 {
		t.Errorf("one that isn't right: %d", len(got))
	}
}

// As many spans as bytes, and as many terms, take no longer than they have to.
func TestManySpans(t *testing.T) {
	const n = 1 << 16
	text := strings.Repeat("x\n", n)
	var l []api.Span
	tuple := variable("x")
	for i := n - 1; i >= 0; i-- {
		l = append(l, at(2*i, 2*i+1))
		tuple = node(api.App, spanned(variable("x"), at(2*i, 2*i+1)), tuple)
	}
	if got := slice.Marked(text, l...); got != strings.Repeat("«x»\n", n) {
		t.Error("Marked")
	}
	if got := slice.Skeleton(text, l...); got != strings.Repeat("x", n) {
		t.Error("Skeleton")
	}
	if got := slice.Lines(text, l...); len(got) != n || got[0] != 1 || got[n-1] != n {
		t.Errorf("Lines: %d", len(got))
	}
	if got := slice.Blamed(tuple, l...); len(got) != n || got[0] != 1 || got[n-1] != 2*n-1 {
		t.Errorf("Blamed: %d", len(got))
	}
}

// rules 4 and 7

func TestWhatIsHandedInStays(t *testing.T) {
	whole := list(at(6, 8), at(2, 3), at(0, 1), at(4, 4), at(77, 78), at(66, 67))
	before := slices.Clone(whole)
	l := whole[:4] // with spare room behind it
	numbers := []int{3, 1, 0, 2, 77, 66}
	equations := charged(whole...)
	x := read(t, "fun f -> (f 1, f true)")
	kept := term.Copy(x)
	slice.Of(equations[:4], numbers[:3]...)
	slice.Marked("abc\ndefgh", l...)
	slice.Skeleton("abc\ndefgh", l...)
	slice.Lines("abc\ndefgh", l...)
	slice.Blamed(x, l...)
	if !slices.Equal(whole, before) || !slices.Equal(numbers, []int{3, 1, 0, 2, 77, 66}) || !term.Equal(x, kept) {
		t.Error("what is handed in is changed")
	}
	for i, e := range equations {
		if e.At != whole[i] || e.L.Kind != api.TInt || e.R.Kind != api.TInt {
			t.Error("equations are changed")
		}
	}
}

func TestAnswersAreNewMemory(t *testing.T) {
	l := list(at(6, 8), at(0, 1))
	equations := charged(l...)
	x := read(t, "f (x y)")
	for range 2 {
		spans := slice.Of(equations, 0, 1)
		lines := slice.Lines("a\nb\nc\ndef", l...)
		blamed := slice.Blamed(x, at(2, 7), at(0, 1))
		if !slices.Equal(spans, list(at(0, 1), at(6, 8))) || !slices.Equal(lines, []int{1, 4}) || !slices.Equal(blamed, []int{1, 2, 3, 4}) {
			t.Fatalf("%v, %v, %v", spans, lines, blamed)
		}
		for i := range spans[:cap(spans)] {
			spans[:cap(spans)][i] = at(-7, -7)
		}
		for _, numbers := range [][]int{lines, blamed} {
			for i := range numbers[:cap(numbers)] {
				numbers[:cap(numbers)][i] = -7
			}
		}
	}
}

func TestListsWithoutElements(t *testing.T) {
	none := []api.Span{}
	if got := slice.Of([]api.Eq{}, []int{}...); len(got) != 0 {
		t.Errorf("Of: %v", got)
	}
	hold(t, "f x", none)
	if got := slice.Blamed(read(t, "f x"), none...); len(got) != 0 {
		t.Errorf("Blamed: %v", got)
	}
	x := api.Term{Kind: api.Var, Name: "x", Parts: []api.Term{}, At: at(0, 1)}
	if got := slice.Blamed(x, at(0, 1)); !slices.Equal(got, []int{0}) {
		t.Errorf("Blamed, a Var with an empty list: %v", got)
	}
}
