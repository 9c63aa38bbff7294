package span_test

import (
	"math"
	"slices"
	"strings"
	"testing"

	"pangram/api"
	"pangram/span"
)

func at(from, to int) api.Span { return api.Span{From: from, To: to} }

func list(l ...api.Span) []api.Span { return l }

// P1.1

func TestMerge(t *testing.T) {
	for name, c := range map[string]struct{ in, want []api.Span }{
		"the document's example":        {list(at(2, 4), at(0, 1), at(3, 6), at(6, 7)), list(at(0, 1), at(2, 7))},
		"none":                          {nil, nil},
		"one":                           {list(at(3, 5)), list(at(3, 5))},
		"apart":                         {list(at(4, 5), at(0, 1)), list(at(0, 1), at(4, 5))},
		"one byte between":              {list(at(0, 2), at(3, 4)), list(at(0, 2), at(3, 4))},
		"touching":                      {list(at(2, 4), at(0, 2)), list(at(0, 4))},
		"a row that touches":            {list(at(2, 3), at(1, 2), at(0, 1), at(3, 4)), list(at(0, 4))},
		"the same twice":                {list(at(1, 3), at(1, 3)), list(at(1, 3))},
		"one in another":                {list(at(0, 9), at(2, 3), at(4, 5)), list(at(0, 9))},
		"one in another, then touching": {list(at(0, 9), at(2, 3), at(9, 11)), list(at(0, 11))},
		"the same beginning":            {list(at(1, 2), at(1, 7), at(1, 4)), list(at(1, 7))},
		"without bytes":                 {list(at(3, 3), at(5, 2), at(0, 0)), nil},
		"without bytes between":         {list(at(0, 2), at(2, 2), at(3, 5)), list(at(0, 2), at(3, 5))},
		"backwards across":              {list(at(0, 2), at(9, 1), at(3, 5)), list(at(0, 2), at(3, 5))},
		"below 0":                       {list(at(-3, -1), at(-1, 2)), list(at(-3, 2))},
		"the ends of int": {
			list(at(5, math.MaxInt), at(math.MinInt, 3), at(math.MaxInt, math.MinInt)),
			list(at(math.MinInt, 3), at(5, math.MaxInt)),
		},
	} {
		if got := span.Merge(c.in...); !slices.Equal(got, c.want) {
			t.Errorf("%s: Merge(%v) = %v, want %v", name, c.in, got, c.want)
		}
	}
}

func TestWhatIsHandedInStays(t *testing.T) {
	in := []api.Span{at(6, 7), at(2, 4), at(3, 6), at(9, 9), at(0, 1), at(77, 78), at(66, 67)}
	before := slices.Clone(in)
	l := in[:5] // with spare room behind it
	span.Has(3, l...)
	span.Count(5, l...)
	span.Within(l, l)
	span.Cut("abcdefgh", l...)
	span.Right(5, l...)
	merged := span.Merge(l...)
	for i := range merged {
		merged[i] = at(-1, -1)
	}
	if !slices.Equal(in, before) {
		t.Errorf("changed: %v, was %v", in, before)
	}
	if again := span.Merge(l...); !slices.Equal(again, list(at(0, 1), at(2, 7))) {
		t.Errorf("a changed answer is answered again: %v", again)
	}
}

func TestHas(t *testing.T) {
	l := list(at(2, 4), at(6, 6), at(9, 7), at(-2, 0))
	for i, want := range map[int]bool{
		-3: false, -2: true, -1: true, 0: false, 1: false, 2: true, 3: true, 4: false,
		6: false, 7: false, 8: false, 9: false, math.MinInt: false, math.MaxInt: false,
	} {
		if span.Has(i, l...) != want {
			t.Errorf("Has(%d, %v) isn't %v", i, l, want)
		}
	}
	if span.Has(0) {
		t.Error("none has a byte")
	}
	if !span.Has(math.MinInt, at(math.MinInt, math.MaxInt)) || span.Has(math.MaxInt, at(math.MinInt, math.MaxInt)) {
		t.Error("the ends of int")
	}
}

func TestWithin(t *testing.T) {
	for name, c := range map[string]struct {
		a, b []api.Span
		want bool
	}{
		"none in none":               {nil, nil, true},
		"none in one":                {nil, list(at(1, 2)), true},
		"one in none":                {list(at(1, 2)), nil, false},
		"without bytes in none":      {list(at(5, 5), at(7, 3)), nil, true},
		"in one without bytes":       {list(at(1, 2)), list(at(1, 1), at(2, 1)), false},
		"the same":                   {list(at(1, 4)), list(at(1, 4)), true},
		"inside":                     {list(at(2, 3)), list(at(1, 4)), true},
		"a byte too far":             {list(at(2, 5)), list(at(1, 4)), false},
		"a byte too early":           {list(at(0, 3)), list(at(1, 4)), false},
		"over two that touch":        {list(at(1, 6)), list(at(4, 7), at(0, 4)), true},
		"over two that don't":        {list(at(1, 6)), list(at(5, 7), at(0, 4)), false},
		"each in another":            {list(at(8, 9), at(1, 2)), list(at(0, 2), at(4, 5), at(7, 9)), true},
		"one of them in the gap":     {list(at(8, 9), at(3, 4), at(1, 2)), list(at(0, 2), at(4, 5), at(7, 9)), false},
		"the last one in none":       {list(at(1, 2), at(10, 11)), list(at(0, 2), at(4, 5)), false},
		"below 0":                    {list(at(-5, -3)), list(at(-5, 0)), true},
		"below 0, but not all of it": {list(at(-6, -3)), list(at(-5, 0)), false},
	} {
		if span.Within(c.a, c.b) != c.want {
			t.Errorf("%s: Within(%v, %v) isn't %v", name, c.a, c.b, c.want)
		}
	}
}

func TestJoin(t *testing.T) {
	for name, c := range map[string]struct{ a, b, want api.Span }{
		"apart":                    {at(3, 5), at(8, 9), at(3, 9)},
		"touching":                 {at(3, 5), at(5, 9), at(3, 9)},
		"crossing":                 {at(3, 7), at(5, 9), at(3, 9)},
		"one in the other":         {at(3, 9), at(5, 6), at(3, 9)},
		"below 0":                  {at(-3, -2), at(1, 2), at(-3, 2)},
		"the one without bytes":    {at(5, 5), at(8, 9), at(8, 9)},
		"the one backwards":        {at(9, 1), at(8, 9), at(8, 9)},
		"both without bytes":       {at(5, 5), at(7, 7), at(0, 0)},
		"both backwards":           {at(5, 2), at(7, 1), at(0, 0)},
		"the same one, no bytes":   {at(5, 5), at(5, 5), at(0, 0)},
		"without bytes, further":   {at(20, 20), at(3, 4), at(3, 4)},
		"the whole of what int is": {at(math.MinInt, 0), at(1, math.MaxInt), at(math.MinInt, math.MaxInt)},
	} {
		if got := span.Join(c.a, c.b); got != c.want {
			t.Errorf("%s: Join(%v, %v) = %v, want %v", name, c.a, c.b, got, c.want)
		}
		if got := span.Join(c.b, c.a); got != c.want {
			t.Errorf("%s: Join(%v, %v) = %v, want %v", name, c.b, c.a, got, c.want)
		}
	}
}

// P1.2

func TestCount(t *testing.T) {
	l := list(at(6, 8), at(-4, 2), at(1, 3), at(5, 5), at(9, 4))
	for n, want := range map[int]int{
		math.MinInt: 0, -1: 0, 0: 0, 1: 1, 2: 2, 3: 3, 5: 3, 6: 3, 7: 4, 8: 5, 100: 5, math.MaxInt: 5,
	} {
		if got := span.Count(n, l...); got != want {
			t.Errorf("Count(%d, %v) = %d, want %d", n, l, got, want)
		}
	}
	if span.Count(9) != 0 {
		t.Error("none has bytes")
	}
	if got := span.Count(math.MaxInt, at(math.MinInt, math.MaxInt)); got != math.MaxInt {
		t.Error("the ends of int", got)
	}
}

func TestCut(t *testing.T) {
	for name, c := range map[string]struct {
		text string
		l    []api.Span
		want []string
	}{
		"two":                {"abcdef", list(at(4, 6), at(0, 1)), []string{"a", "ef"}},
		"two that touch":     {"abcdef", list(at(2, 4), at(1, 2)), []string{"bcd"}},
		"two that cross":     {"abcdef", list(at(2, 4), at(1, 3)), []string{"bcd"}},
		"beyond both ends":   {"abcdef", list(at(4, 9), at(-3, 1)), []string{"a", "ef"}},
		"all outside":        {"abcdef", list(at(6, 9), at(-3, 0)), nil},
		"far outside":        {"abcdef", list(at(math.MinInt, -9), at(77, math.MaxInt)), nil},
		"all of it":          {"abcdef", list(at(math.MinInt, math.MaxInt)), []string{"abcdef"}},
		"without bytes":      {"abcdef", list(at(2, 2), at(5, 1)), nil},
		"of an empty text":   {"", list(at(-1, 3)), nil},
		"none":               {"abcdef", nil, nil},
		"bytes, not letters": {"\xc3\xa4\xff", list(at(1, 3)), []string{"\xa4\xff"}},
	} {
		if got := span.Cut(c.text, c.l...); !slices.Equal(got, c.want) {
			t.Errorf("%s: Cut(%q, %v) = %q, want %q", name, c.text, c.l, got, c.want)
		}
	}
}

func TestPlace(t *testing.T) {
	const text = "ab\ncd\n\n\xc3\xa4\r\n"
	for i, want := range map[int][2]int{
		math.MinInt: {1, 1}, -1: {1, 1}, 0: {1, 1}, 1: {1, 2}, 2: {1, 3}, 3: {2, 1}, 4: {2, 2}, 5: {2, 3},
		6: {3, 1}, 7: {4, 1}, 8: {4, 2}, 9: {4, 3}, 10: {4, 4}, 11: {5, 1}, 12: {5, 1}, math.MaxInt: {5, 1},
	} {
		if line, column := span.Place(text, i); [2]int{line, column} != want {
			t.Errorf("Place(%q, %d) = %d, %d, want %v", text, i, line, column, want)
		}
	}
	for _, i := range []int{-1, 0, 1} {
		if line, column := span.Place("", i); line != 1 || column != 1 {
			t.Errorf("Place of the empty text, %d = %d, %d", i, line, column)
		}
	}
	if line, column := span.Place("ab\ncd", 99); line != 2 || column != 3 {
		t.Error("the end of a text without a last line feed", line, column)
	}
}

func TestRight(t *testing.T) {
	for name, c := range map[string]struct {
		n    int
		l    []api.Span
		want bool
	}{
		"none":                {5, nil, true},
		"none of fewer bytes": {-1, nil, true},
		"the whole":           {5, list(at(0, 5)), true},
		"without bytes":       {5, list(at(0, 0), at(2, 2), at(5, 5)), true},
		"crossing":            {5, list(at(1, 4), at(0, 2)), true},
		"of an empty text":    {0, list(at(0, 0)), true},
		"backwards":           {5, list(at(3, 2)), false},
		"below 0":             {5, list(at(-1, 2)), false},
		"beyond":              {5, list(at(3, 6)), false},
		"beyond, no bytes":    {5, list(at(6, 6)), false},
		"below 0, no bytes":   {5, list(at(-1, -1)), false},
		"the last one wrong":  {5, list(at(0, 5), at(2, 3), at(4, 6)), false},
		"the first one wrong": {5, list(at(2, 1), at(2, 3)), false},
		"of fewer bytes":      {-1, list(at(0, 0)), false},
		"the ends of int":     {math.MaxInt, list(at(0, math.MaxInt)), true},
		"the ends, backwards": {math.MaxInt, list(at(math.MaxInt, math.MinInt)), false},
	} {
		if span.Right(c.n, c.l...) != c.want {
			t.Errorf("%s: Right(%d, %v) isn't %v", name, c.n, c.l, c.want)
		}
	}
}

// P1.3, and P1.1, P1.2 by bytes that are marked one by one

const low, high = -2, 5 // all small spans lie between

func smallSpans() []api.Span {
	var l []api.Span
	for from := low; from <= high; from++ {
		for to := low; to <= high; to++ {
			l = append(l, at(from, to))
		}
	}
	return l
}

// mark is the bytes of spans, those from low on, as signs.
func mark(l ...api.Span) string {
	b := []byte(strings.Repeat(".", high-low+1))
	for _, s := range l {
		for i := s.From; i < s.To; i++ {
			b[i-low] = '#'
		}
	}
	return string(b)
}

func checkMerged(t *testing.T, l []api.Span) {
	t.Helper()
	merged := span.Merge(l...)
	if mark(merged...) != mark(l...) {
		t.Fatalf("Merge(%v) = %v: other bytes", l, merged)
	}
	for i, s := range merged {
		if s.From >= s.To || i > 0 && merged[i-1].To >= s.From {
			t.Fatalf("Merge(%v) = %v: not rising, or touching, or without bytes", l, merged)
		}
	}
	if again := span.Merge(merged...); !slices.Equal(again, merged) {
		t.Fatalf("Merge(%v) = %v, and merged again %v", l, merged, again)
	}
	for _, order := range [][]int{{0, 2, 1}, {1, 0, 2}, {1, 2, 0}, {2, 0, 1}, {2, 1, 0}} {
		other := list(l[order[0]], l[order[1]], l[order[2]])
		if got := span.Merge(other...); !slices.Equal(got, merged) {
			t.Fatalf("Merge(%v) = %v, but Merge(%v) = %v", l, merged, other, got)
		}
	}
}

func checkBytes(t *testing.T, l []api.Span) {
	t.Helper()
	bytes := mark(l...)
	for i := low - 1; i <= high+1; i++ {
		if has := i >= low && i <= high && bytes[i-low] == '#'; span.Has(i, l...) != has {
			t.Fatalf("Has(%d, %v) isn't %v", i, l, has)
		}
	}
	const text = "abcd"
	inside := bytes[-low:][:len(text)]
	var parts []string
	for i, from := 0, 0; i <= len(text); i++ {
		if i == len(text) || inside[i] == '.' {
			if from < i {
				parts = append(parts, text[from:i])
			}
			from = i + 1
		}
	}
	if got := span.Cut(text, l...); !slices.Equal(got, parts) {
		t.Fatalf("Cut(%q, %v) = %q, want %q", text, l, got, parts)
	}
	for n := range len(text) + 1 {
		if got, want := span.Count(n, l...), strings.Count(inside[:n], "#"); got != want {
			t.Fatalf("Count(%d, %v) = %d, want %d", n, l, got, want)
		}
	}
}

func TestAllSmallLists(t *testing.T) {
	small := smallSpans()
	for _, a := range small {
		for _, b := range small {
			for _, c := range small {
				checkMerged(t, list(a, b, c))
			}
			checkBytes(t, list(a, b))
		}
	}
}

func TestAllSmallPairs(t *testing.T) {
	small := smallSpans()
	for _, a := range small {
		for _, b := range small {
			joined, bytes := span.Join(a, b), mark(a, b)
			want := at(strings.Index(bytes, "#")+low, strings.LastIndex(bytes, "#")+1+low)
			if !strings.Contains(bytes, "#") {
				want = at(0, 0)
			}
			if joined != want {
				t.Fatalf("Join(%v, %v) = %v, want %v", a, b, joined, want)
			}
			for _, c := range small {
				within := true
				for i, m := range mark(a, b) {
					within = within && (m == '.' || mark(c)[i] == '#')
				}
				if span.Within(list(a, b), list(c)) != within {
					t.Fatalf("Within(%v, %v and %v) isn't %v", c, a, b, within)
				}
			}
		}
	}
}
