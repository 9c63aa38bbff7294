package mus_test

import (
	"math"
	"math/rand/v2"
	"runtime/debug"
	"slices"
	"strconv"
	"strings"
	"testing"

	"pangram/api"
	"pangram/eqs"
	"pangram/mus"
	"pangram/parse"
	"pangram/signature"
	"pangram/solve"
	"pangram/types"
)

const deep = 1 << 14 // levels: calls within calls as deep would take more than the stack that TestDeepTypes gives

func typ(kind, n int, parts ...api.Type) api.Type {
	return api.Type{Kind: kind, N: n, Parts: parts}
}

func v(n int) api.Type { return typ(api.TVar, n) }

func number() api.Type { return typ(api.TInt, 0) }

func truth() api.Type { return typ(api.TBool, 0) }

func arrow(a, b api.Type) api.Type { return typ(api.TArrow, 0, a, b) }

func tuple(parts ...api.Type) api.Type { return typ(api.TTuple, 0, parts...) }

func eq(l, r api.Type) api.Eq { return api.Eq{L: l, R: r, At: api.Span{From: 3, To: 4}} }

// list is the equations of a text.
func list(t *testing.T, s string) []api.Eq {
	t.Helper()
	var l []api.Eq
	for _, one := range strings.FieldsFunc(s, func(c rune) bool { return c == ';' }) {
		left, right, _ := strings.Cut(one, "=")
		a, e := signature.Parse(strings.TrimSpace(left))
		b, f := signature.Parse(strings.TrimSpace(right))
		if e != api.OK || f != api.OK {
			t.Fatalf("no equation: %q", one)
		}
		l = append(l, eq(a, b))
	}
	return l
}

// text is equations as a text, so that a test tells which ones fail.
func text(l []api.Eq) string {
	s := ""
	for _, e := range l {
		s += types.Print(e.L) + " = " + types.Print(e.R) + "; "
	}
	return s
}

// equations is those of a term's text.
func equations(t *testing.T, s string) []api.Eq {
	t.Helper()
	x, _, e := parse.Term(s, 1000)
	if e != api.OK {
		t.Fatalf("no term: %q", s)
	}
	l, e := eqs.Of(x, math.MaxInt)
	if e != api.OK {
		t.Fatalf("no equations: %q", s)
	}
	return l
}

// wrongTypes is types that aren't right, by what is wrong with them.
func wrongTypes() map[string]api.Type {
	return map[string]api.Type{
		"the zero one":           {},
		"a kind above 5":         typ(6, 0),
		"a variable below 0":     v(-1),
		"a variable of 2^30":     v(1 << 30),
		"a variable with a part": typ(api.TVar, 0, v(0)),
		"int with a number":      typ(api.TInt, 1),
		"an arrow of one part":   typ(api.TArrow, 0, v(0)),
		"a tuple of one part":    tuple(v(0)),
		"a tuple of nine parts":  tuple(slices.Repeat([]api.Type{v(0)}, 9)...),
		"a wrong part":           tuple(v(0), arrow(v(0), number()), v(-1)),
	}
}

// unlike is equations that can't be solved, in several ways.
const unlike = "int = bool; 'a = int; 'a = bool; 'b = 'b -> int; 'c = 'a; 'c = (int * int)"

// upTo is the numbers from 0 on, ahead of n.
func upTo(n int) []int {
	var l []int
	for i := range n {
		l = append(l, i)
	}
	return l
}

// of is the numbers of a mask.
func of(mask int) []int {
	var l []int
	for i := range 62 {
		if mask>>i&1 == 1 {
			l = append(l, i)
		}
	}
	return l
}

// second ways

// solvable tells whether the equations of some numbers can be solved.
func solvable(l []api.Eq, numbers []int) bool {
	var some []api.Eq
	for _, i := range numbers {
		some = append(some, l[i])
	}
	return solve.Sat(some...) == api.OK
}

func without(numbers []int, i int) []int {
	return slices.DeleteFunc(slices.Clone(numbers), func(j int) bool { return j == i })
}

// oneByOne is the core of the equations of some numbers, left out in their order; nothing, if those can be solved.
func oneByOne(l []api.Eq, order []int) []int {
	if solvable(l, order) {
		return nil
	}
	left := order
	for _, i := range order {
		if rest := without(left, i); !solvable(l, rest) {
			left = rest
		}
	}
	return slices.Sorted(slices.Values(left))
}

func minimal(l []api.Eq, numbers []int) bool {
	if solvable(l, numbers) {
		return false
	}
	return !slices.ContainsFunc(numbers, func(i int) bool { return !solvable(l, without(numbers, i)) })
}

// all is all cores that Cores tells of equations that can't be solved.
func all(l []api.Eq) [][]int {
	type told struct {
		core []int
		left []int // what wasn't left out on the way
	}
	known := map[string]bool{}
	var cores [][]int
	var queue []told
	come := func(left []int) {
		core := oneByOne(l, left)
		key := ""
		for _, i := range core {
			key += strconv.Itoa(i) + " "
		}
		if core != nil && !known[key] {
			known[key] = true
			cores = append(cores, core)
			queue = append(queue, told{core, left})
		}
	}
	come(upTo(len(l)))
	for len(queue) > 0 {
		next := queue[0]
		queue = queue[1:]
		for _, i := range next.core {
			come(without(next.left, i))
		}
	}
	return cores
}

func sameCores(a, b [][]int) bool { return slices.EqualFunc(a, b, slices.Equal[[]int]) }

// wantErrors wants an error of all calls.
func wantErrors(t *testing.T, what string, l []api.Eq, want api.Errno) {
	t.Helper()
	if got, e := mus.Core(l...); e != want || got != nil {
		t.Fatalf("%s: Core: %v, %v, want %v", what, got, e, want)
	}
	got, times, e := mus.Count(l...)
	if e != want || got != nil || times < 0 || times > len(l)+1 {
		t.Fatalf("%s: Count: %v, %d, %v, want %v", what, got, times, e, want)
	}
	if solved := want != api.ErrArg; solved != (times > 0) {
		t.Fatalf("%s: Count: %d times beside %v", what, times, e)
	}
	for _, holds := range []bool{true, false} {
		if got, e := mus.Among(l, func(int) bool { return holds }); e != want || got != nil {
			t.Fatalf("%s: Among: %v, %v, want %v", what, got, e, want)
		}
	}
	for _, most := range []int{math.MinInt, -1, 0, 1, 9, math.MaxInt} {
		if got, e := mus.Cores(most, l...); e != want || got != nil {
			t.Fatalf("%s: Cores of %d: %v, %v, want %v", what, most, got, e, want)
		}
	}
	if mus.Minimal(l, upTo(len(l))...) || mus.Minimal(l) {
		t.Fatalf("%s: Minimal", what)
	}
}

// wantCore wants a core of Core and Count, and that it is minimal.
func wantCore(t *testing.T, what string, l []api.Eq, want []int) {
	t.Helper()
	if got, e := mus.Core(l...); e != api.OK || !slices.Equal(got, want) {
		t.Fatalf("%s: Core: %v, %v, want %v", what, got, e, want)
	}
	got, times, e := mus.Count(l...)
	if e != api.OK || !slices.Equal(got, want) || times < 1 || times > len(l)+1 {
		t.Fatalf("%s: Count: %v, %d, %v, want %v of %d", what, got, times, e, want, len(l))
	}
	if !mus.Minimal(l, want...) {
		t.Fatalf("%s: %v isn't minimal", what, want)
	}
}

// wantAmong wants a core of Among, if it keeps the equations of a mask.
func wantAmong(t *testing.T, what string, l []api.Eq, mask int) {
	t.Helper()
	var asked, order, behind []int
	for i := range l {
		if mask>>i&1 == 1 {
			behind = append(behind, i)
		} else {
			order = append(order, i)
		}
	}
	want := oneByOne(l, append(order, behind...))
	got, e := mus.Among(l, func(i int) bool {
		asked = append(asked, i)
		return mask>>i&1 == 1
	})
	if e != api.OK || !slices.Equal(got, want) {
		t.Fatalf("%s: Among, %v behind: %v, %v, want %v", what, behind, got, e, want)
	}
	if !slices.Equal(asked, upTo(len(l))) {
		t.Fatalf("%s: Among asks %v", what, asked)
	}
}

// wantCores wants cores, and as many of them as may be.
func wantCores(t *testing.T, what string, l []api.Eq, want [][]int) {
	t.Helper()
	for _, most := range []int{math.MinInt, -1, 0, 1, 2, 3, len(want) - 1, len(want), len(want) + 1, 1000, math.MaxInt} {
		few := want[:max(0, min(most, len(want)))]
		if got, e := mus.Cores(most, l...); e != api.OK || !sameCores(got, few) {
			t.Fatalf("%s: Cores of %d: %v, %v, want %v", what, most, got, e, few)
		}
	}
}

// hold holds all that is told of a few equations against what comes of them a second way.
func hold(t *testing.T, l []api.Eq) {
	t.Helper()
	what := text(l)
	if solve.Sat(l...) == api.OK {
		wantErrors(t, what, l, api.ErrNone)
		for mask := range 1 << len(l) {
			if mus.Minimal(l, of(mask)...) {
				t.Fatalf("%s: Minimal of %v", what, of(mask))
			}
		}
		return
	}
	wantCore(t, what, l, oneByOne(l, upTo(len(l))))
	for mask := range 1 << len(l) {
		wantAmong(t, what, l, mask)
		if got, want := mus.Minimal(l, of(mask)...), minimal(l, of(mask)); got != want {
			t.Fatalf("%s: Minimal of %v: %v", what, of(mask), got)
		}
	}
	wantCores(t, what, l, all(l))
}

// P19.1

func TestCore(t *testing.T) {
	for s, want := range map[string][]int{
		"'a = int; 'b = 'b; 'a = bool":               {0, 2},
		"int = bool":                                 {0},
		"'a = 'a -> int":                             {0},
		"int = 'a -> 'b":                             {0},
		"(int * int) = (int * int * int)":            {0},
		"int = bool; int = bool":                     {1},
		"int = bool; 'a = int":                       {0},
		"'a = int; int = bool":                       {1},
		"'a = int; 'a = bool":                        {0, 1},
		"'a = int; 'a = bool; int = bool":            {2},
		"int = bool; 'a = int; 'a = bool":            {1, 2},
		"'a = int; int = bool; 'a = bool":            {1},
		"'a = int; 'a = int; 'a = bool":              {1, 2},
		"'a = int; 'a = bool; 'a = int":              {1, 2},
		"'a = int; 'a = bool; 'a = bool":             {0, 2},
		"'a = int; 'a = bool; 'a = 'b -> 'c":         {1, 2},
		"'a = 'b; 'b = int; 'a = bool":               {0, 1, 2},
		"'a = 'b; 'b = 'a; 'b = int; 'a = bool":      {1, 2, 3},
		"'a = 'b -> int; 'b = 'a":                    {0, 1},
		"'a = 'b -> int; 'c = 'a; 'b = 'a":           {0, 2},
		"'a = 'b -> int; 'c = 'a -> int; 'b = 'c":    {0, 1, 2},
		"'a = 'b -> int; 'b = 'a; 'a = int":          {0, 2},
		"'a = int; 'a = bool; 'b = 'b -> 'b":         {2},
		"'b = 'b -> 'b; 'a = int; 'a = bool":         {1, 2},
		"'a = 'b -> 'c; 'c = int; 'a = int -> bool":  {0, 1, 2},
		"'a = ('b * 'b); 'c = 'a; 'c = (int * bool)": {0, 1, 2},
		"'a = ('b * 'd); 'c = 'a; 'c = (int * 'c)":   {2},
		"'a = 'a; int = int; 'b = int; bool = 'b":    {2, 3},
		"'a = int; 'b = int; 'c = int; int = bool":   {3},
		"int = bool; 'a = int; 'b = int; 'c = int":   {0},
		"'a = int; 'b = bool; 'c = 'a; 'b = 'c":      {0, 1, 2, 3},
		"'a = int; 'a = bool; 'b = int; 'b = bool":   {2, 3},
		"'a = int; 'b = int; 'a = bool; 'b = bool":   {1, 3},
		"'a = int; 'b = int; 'b = bool; 'a = bool":   {1, 2},
		"'a = 'b; 'b = 'c; 'c = 'a; 'a = 'b -> 'c":   {2, 3},
		unlike:                               {3},
		unlike + "; 'd = 'd":                 {3},
		unlike + "; int = bool":              {6},
		"'d = 'a; " + unlike + "; 'd = bool": {4},
		"int = bool; 'b = 'b -> int; 'a = int; 'a = bool; 'c = 'a; 'c = (int * int)": {3, 4, 5},
		strings.Repeat("'a = 'a; ", 50) + unlike:                                     {53},
		unlike + strings.Repeat("; 'a = 'a", 50):                                     {3},
		"'z = int; " + strings.Repeat("'y = 'x;", 50) + "'z = bool":                  {0, 51},
	} {
		l := list(t, s)
		wantCore(t, s, l, want)
		if got := oneByOne(l, upTo(len(l))); !slices.Equal(got, want) {
			t.Fatalf("%s: one by one: %v", s, got)
		}
	}
}

func TestWhatCanBeSolved(t *testing.T) {
	for _, s := range []string{
		"", "'a = 'a", "int = int", "'a = int", "'a = int; 'a = int", "'a = 'b -> int; 'b = bool", "'a = 'b; 'b = 'a",
		"'a = ('b * 'c); 'b = 'c; 'a = (int * 'd)", "'a = 'b -> 'c; 'd = 'a -> int; 'b = 'c -> 'c",
	} {
		wantErrors(t, s, list(t, s), api.ErrNone)
	}
	for _, s := range []string{"fun x -> x", "let i = fun x -> x in (i 1, i true)", "let rec f = fun x -> f x in f"} {
		wantErrors(t, s, equations(t, s), api.ErrNone)
	}
}

func TestSidesThatArentRight(t *testing.T) {
	for what, wrong := range wrongTypes() {
		for _, s := range []string{"", "'a = int", "'a = int; 'b = bool", unlike} {
			l := list(t, s)
			for i := range len(l) + 1 {
				for _, bad := range []api.Eq{eq(wrong, number()), eq(number(), wrong), eq(wrong, wrong)} {
					bads := slices.Insert(slices.Clone(l), i, bad)
					wantErrors(t, what, bads, api.ErrArg)
					for mask := range 1 << len(bads) {
						if mus.Minimal(bads, of(mask)...) {
							t.Fatalf("%s: Minimal of %v", what, of(mask))
						}
					}
				}
			}
		}
	}
}

// Wherever those of a core stand, it is told.
func TestPlacesOfACore(t *testing.T) {
	const n = 11
	for mask := 1; mask < 1<<n; mask++ {
		want := of(mask)
		var l []api.Eq
		for i := range n {
			l = append(l, eq(v(20+i), v(40)))
		}
		// int, 'a; 'a, 'b; .. bool
		last := number()
		for k, i := range want {
			next := v(k)
			if k == len(want)-1 {
				next = truth()
			}
			l[i] = eq(last, next)
			last = next
		}
		if got, e := mus.Core(l...); e != api.OK || !slices.Equal(got, want) {
			t.Fatalf("Core: %v, %v, want %v", got, e, want)
		}
		if got, times, e := mus.Count(l...); e != api.OK || !slices.Equal(got, want) || times < 1 || times > n+1 {
			t.Fatalf("Count: %v, %d, %v, want %v", got, times, e, want)
		}
		if got, e := mus.Cores(9, l...); e != api.OK || !sameCores(got, [][]int{want}) {
			t.Fatalf("Cores: %v, %v, want %v", got, e, want)
		}
	}
}

func TestMinimal(t *testing.T) {
	for _, c := range []struct {
		s       string
		numbers []int
		want    bool
	}{
		{"'a = int; 'b = 'b; 'a = bool", []int{0, 2}, true},
		{"'a = int; 'b = 'b; 'a = bool", []int{2, 0}, true},
		{"'a = int; 'b = 'b; 'a = bool", []int{2, 0, 2, 0, 0}, true},
		{"'a = int; 'b = 'b; 'a = bool", []int{0, 2, 3}, true},
		{"'a = int; 'b = 'b; 'a = bool", []int{-1, 0, 2, math.MinInt, math.MaxInt, 3}, true},
		{"'a = int; 'b = 'b; 'a = bool", []int{0, 1, 2}, false},
		{"'a = int; 'b = 'b; 'a = bool", []int{0, 1}, false},
		{"'a = int; 'b = 'b; 'a = bool", []int{0}, false},
		{"'a = int; 'b = 'b; 'a = bool", []int{0, 0}, false},
		{"'a = int; 'b = 'b; 'a = bool", nil, false},
		{"'a = int; 'b = 'b; 'a = bool", []int{3, -1}, false},
		{"int = bool", []int{0}, true},
		{"int = bool", []int{0, 0, 0}, true},
		{"int = bool", nil, false},
		{"int = bool", []int{1}, false},
		{"int = bool; int = bool", []int{0}, true},
		{"int = bool; int = bool", []int{1}, true},
		{"int = bool; int = bool", []int{0, 1}, false},
		{"'a = 'a -> 'b; 'b = int", []int{0}, true},
		{"'a = 'a -> 'b; 'b = int", []int{0, 1}, false},
		{"'a = int; 'b = bool; 'a = 'b; 'b = 'a", []int{0, 1, 2}, true},
		{"'a = int; 'b = bool; 'a = 'b; 'b = 'a", []int{0, 1, 3}, true},
		{"'a = int; 'b = bool; 'a = 'b; 'b = 'a", []int{0, 1, 2, 3}, false},
		{"'a = int; 'b = bool; 'a = 'b; 'b = 'a", []int{0, 2, 3}, false},
		{"", nil, false},
		{"", []int{0, -1, 1}, false},
	} {
		if got := mus.Minimal(list(t, c.s), c.numbers...); got != c.want {
			t.Errorf("%s: Minimal of %v: %v", c.s, c.numbers, got)
		}
	}
}

// P19.2

func TestAmong(t *testing.T) {
	for _, c := range []struct {
		s    string
		keep []int
		want []int
	}{
		{"'a = int; 'b = 'b; 'a = bool", nil, []int{0, 2}},
		{"'a = int; 'b = 'b; 'a = bool", []int{0, 1, 2}, []int{0, 2}},
		{"'a = int; 'a = int; 'a = bool", nil, []int{1, 2}},
		{"'a = int; 'a = int; 'a = bool", []int{0}, []int{0, 2}},
		{"'a = int; 'a = int; 'a = bool", []int{1}, []int{1, 2}},
		{"'a = int; 'a = int; 'a = bool", []int{0, 1}, []int{1, 2}},
		{"'a = int; 'a = int; 'a = bool", []int{0, 1, 2}, []int{1, 2}},
		{"int = bool; int = bool; int = bool", nil, []int{2}},
		{"int = bool; int = bool; int = bool", []int{1}, []int{1}},
		{"int = bool; int = bool; int = bool", []int{0}, []int{0}},
		{"int = bool; int = bool; int = bool", []int{0, 1}, []int{1}},
		{"'a = int; 'a = bool; int = bool", nil, []int{2}},
		{"'a = int; 'a = bool; int = bool", []int{0}, []int{2}},
		{"'a = int; 'a = bool; int = bool", []int{1}, []int{2}},
		{"'a = int; 'a = bool; int = bool", []int{0, 1}, []int{0, 1}},
		{"'a = int; 'a = bool; int = bool", []int{0, 2}, []int{2}},
		{unlike, []int{0}, []int{0}},
		{unlike, []int{3}, []int{3}},
		{unlike, []int{2}, []int{2, 4, 5}},
		{unlike, []int{1, 2}, []int{1, 2}},
	} {
		l := list(t, c.s)
		got, e := mus.Among(l, func(i int) bool { return slices.Contains(c.keep, i) })
		if e != api.OK || !slices.Equal(got, c.want) {
			t.Errorf("%s: Among, %v behind: %v, %v, want %v", c.s, c.keep, got, e, c.want)
		}
	}
}

// Each number is asked once, from the first one on, even where there is no core.
func TestAmongAsksOnce(t *testing.T) {
	wrong := append(list(t, unlike), eq(v(-1), number()))
	for _, l := range [][]api.Eq{nil, list(t, "'a = int; 'b = 'a"), list(t, unlike), wrong} {
		for _, holds := range []bool{true, false} {
			var asked []int
			mus.Among(l, func(i int) bool {
				asked = append(asked, i)
				return holds
			})
			if !slices.Equal(asked, upTo(len(l))) {
				t.Errorf("%s: asked %v", text(l), asked)
			}
		}
	}
}

// No call panics, whatever it is given.
func TestAmongByAnyFunction(t *testing.T) {
	l := list(t, "'a = int; 'a = int; 'a = bool")
	if got, e := mus.Among(l, nil); e != api.OK || !slices.Equal(got, []int{1, 2}) {
		t.Errorf("by none: %v, %v", got, e)
	}
	got, e := mus.Among(l, func(i int) bool {
		if i == 1 {
			panic("asked")
		}
		return i == 0
	})
	if e != api.OK || !slices.Equal(got, []int{0, 2}) {
		t.Errorf("by one that panics: %v, %v", got, e)
	}
	if got, e := mus.Among(nil, nil); e != api.ErrNone || got != nil {
		t.Errorf("no equations, by none: %v, %v", got, e)
	}
}

func TestCores(t *testing.T) {
	for s, want := range map[string][][]int{
		"'a = int; 'b = 'b; 'a = bool":                                    {{0, 2}},
		"int = bool":                                                      {{0}},
		"int = bool; int = bool":                                          {{1}, {0}},
		"int = bool; int = bool; int = bool":                              {{2}, {1}, {0}},
		"'a = int; 'a = bool; int = bool":                                 {{2}, {0, 1}},
		"int = bool; 'a = int; 'a = bool":                                 {{1, 2}, {0}},
		"'a = int; 'a = int; 'a = bool":                                   {{1, 2}, {0, 2}},
		"'a = int; 'a = bool; 'a = int; 'a = bool":                        {{2, 3}, {0, 3}, {1, 2}, {0, 1}},
		"'a = int; 'a = bool; 'a = 'b -> 'b":                              {{1, 2}, {0, 2}, {0, 1}},
		"'a = int; 'a = bool; 'b = int; 'b = bool":                        {{2, 3}, {0, 1}},
		"'a = int; 'b = int; 'b = bool; 'a = bool":                        {{1, 2}, {0, 3}},
		"int = bool; bool = int; 'a = int; 'a = bool; 'a = int":           {{3, 4}, {1}, {2, 3}, {0}},
		"'a = 'a -> int; 'b = 'b -> 'a; 'c = int":                         {{1}, {0}},
		"'a = int; 'b = bool; 'a = 'b; 'b = 'a":                           {{0, 1, 3}, {0, 1, 2}},
		"'a = int; 'b = 'a; 'b = bool; 'c = 'b; 'c = 'a -> 'a; 'a = bool": {{2, 3, 4}, {1, 3, 4}, {0, 5}, {0, 1, 2}},
	} {
		l := list(t, s)
		wantCores(t, s, l, want)
		if got := all(l); !sameCores(got, want) {
			t.Errorf("%s: a second way: %v", s, got)
		}
	}
}

// By a core's numbers, one by one, what comes of them stands behind all others, though another way it would come sooner.
func TestCoresStandInTheirOrder(t *testing.T) {
	var l []api.Eq
	for i := range 4 {
		l = append(l, eq(v(i), number()), eq(v(i), truth()))
	}
	want := [][]int{{6, 7}, {4, 5}, {2, 3}, {0, 1}}
	wantCores(t, "four pairs", l, want)
	mixed := []api.Eq{l[0], l[2], l[4], l[6], l[1], l[3], l[5], l[7]}
	wantCores(t, "four pairs, mixed", mixed, [][]int{{3, 7}, {2, 6}, {1, 5}, {0, 4}})
}

// Many equations have far more cores than may be told.
func TestFewOfManyCores(t *testing.T) {
	var l []api.Eq
	for i := range 40 {
		l = append(l, eq(v(0), []api.Type{number(), truth()}[i%2]))
	}
	const most = 30
	got, e := mus.Cores(most, l...)
	if e != api.OK || len(got) != most {
		t.Fatalf("%d, %v", len(got), e)
	}
	for i, core := range got {
		if !mus.Minimal(l, core...) || slices.ContainsFunc(got[:i], func(o []int) bool { return slices.Equal(o, core) }) {
			t.Errorf("%v, the %d.", core, i)
		}
	}
}

// P19.1 to P19.3, by a second way

// smallEqs is equations of few types.
func smallEqs() []api.Eq {
	l := []api.Eq{eq(number(), truth()), eq(v(2), v(2))}
	some := []api.Type{v(1), number(), truth(), arrow(v(0), v(1)), tuple(number(), v(1))}
	for _, t := range some {
		l = append(l, eq(v(0), t))
	}
	return append(l, eq(v(1), number()), eq(arrow(v(1), v(2)), v(2)), eq(tuple(v(0), truth()), tuple(v(1), v(1))))
}

func TestSmallLists(t *testing.T) {
	small := smallEqs()
	hold(t, nil)
	for _, a := range small {
		hold(t, []api.Eq{a})
		for _, b := range small {
			hold(t, []api.Eq{a, b})
			for _, c := range small {
				hold(t, []api.Eq{a, b, c})
			}
		}
	}
}

// chance gives types of a few variables, the same ones whenever the tests run.
type chance struct{ *rand.Rand }

func begin(n uint64) chance { return chance{rand.New(rand.NewPCG(n, 19))} }

func (c chance) typ(vars, depth int) api.Type {
	switch n := c.IntN(10); {
	case n < 4 || depth == 0 && n < 7:
		return v(c.IntN(vars))
	case n == 4 || depth == 0:
		return []api.Type{number(), truth()}[c.IntN(2)]
	case n < 8:
		return arrow(c.typ(vars, depth-1), c.typ(vars, depth-1))
	}
	return tuple(c.typ(vars, depth-1), c.typ(vars, depth-1))
}

func (c chance) eqs(n, vars, depth int) []api.Eq {
	var l []api.Eq
	for range n {
		l = append(l, eq(v(c.IntN(vars)), c.typ(vars, c.IntN(depth+1))))
	}
	return l
}

func TestListsByChance(t *testing.T) {
	by := begin(1)
	many := 0
	for range 600 {
		l := by.eqs(4+by.IntN(4), 2+by.IntN(6), 1)
		hold(t, l)
		if cores, _ := mus.Cores(9, l...); len(cores) > 2 {
			many++
		}
	}
	if many < 100 {
		t.Errorf("%d lists of more than two cores", many)
	}
}

func TestLongerListsByChance(t *testing.T) {
	by := begin(2)
	sizes := map[int]int{}
	for range 2000 {
		vars := 5 + by.IntN(25)
		l := by.eqs(vars+by.IntN(vars), vars, 1)
		what := text(l)
		if solve.Sat(l...) == api.OK {
			wantErrors(t, what, l, api.ErrNone)
			continue
		}
		core := oneByOne(l, upTo(len(l)))
		sizes[len(core)]++
		wantCore(t, what, l, core)
		wantAmong(t, what, l, by.IntN(1<<len(l)))
		first, _ := mus.Cores(1, l...)
		if !sameCores(first, [][]int{core}) {
			t.Fatalf("%s: Cores of 1: %v, want %v", what, first, core)
		}
	}
	if len(sizes) < 8 {
		t.Errorf("cores of the sizes %v", sizes)
	}
}

// P19.3

// wrongTexts is texts whose terms have no type.
func wrongTexts() []string {
	return []string{
		"1 2", "1 true", "(1 : bool)", "fun x -> x x", "fun f -> (f 1, f true)", "if 1 then 2 else 3", "if true then 1 else false",
		"(fun x -> (x : int)) true", "let f = fun x -> x x in 1", "let rec f = fun x -> f in f", "let rec f = f 1 in f f",
		"fun f -> fun x -> if f x then f 1 else x", "let y = fun f -> (fun x -> f (x x)) (fun x -> f (x x)) in y",
		"let i = fun x -> x in (i 1, i true) 1", "let p = fun a -> (a, a) in (p 1 : int)", "let a = 1 true in let b = 2 in (a, b)",
		"fun x -> let y = x in (y 1, (y : int))", "(fun a -> fun b -> (a b, b a)) (fun c -> c) 1", "let rec f = fun x -> (f, x) in f 1",
	}
}

// A core can't be solved, but fewer of its equations can.
func TestCoresOfTexts(t *testing.T) {
	for _, s := range wrongTexts() {
		l := equations(t, s)
		core := oneByOne(l, upTo(len(l)))
		wantCore(t, s, l, core)
		cores, e := mus.Cores(5, l...)
		if e != api.OK || len(cores) == 0 || len(cores) > 5 || !slices.Equal(cores[0], core) {
			t.Fatalf("%s: Cores: %v, %v", s, cores, e)
		}
		for _, core := range cores {
			if !mus.Minimal(l, core...) || len(core) > 20 {
				t.Fatalf("%s: %v isn't minimal", s, core)
			}
			for mask := range 1<<len(core) - 1 {
				var few []int
				for _, i := range of(mask) {
					few = append(few, core[i])
				}
				if !solvable(l, few) || mus.Minimal(l, few...) {
					t.Fatalf("%s: of %v, %v", s, core, few)
				}
			}
		}
	}
}

// long and deep ones

// chain is as many equations as are told, each of which its core takes.
func chain(n int) []api.Eq {
	l := []api.Eq{eq(v(0), number())}
	for i := range n - 2 {
		l = append(l, eq(v(i), v(i+1)))
	}
	return append(l, eq(v(n-2), truth()))
}

func TestAllOfManyAreTheCore(t *testing.T) {
	l := chain(300)
	wantCore(t, "a chain", l, upTo(300))
	if mus.Minimal(append(l, eq(v(7), v(5))), upTo(301)...) {
		t.Error("one too many")
	}
}

// One by one it would be solved far too often.
func TestFewOfManyAreTheCore(t *testing.T) {
	const n = 1 << 13
	var l []api.Eq
	for i := range n {
		l = append(l, eq(v(i+1), arrow(v(i), number())))
	}
	for _, i := range []int{0, n / 3, n - 1} {
		l[i] = eq(v(n+2), v(n+3))
	}
	want := []int{5, 77, n/2 + 1, n/2 + 2, n - 2}
	l[5], l[77] = eq(v(n+4), number()), eq(v(n+5), v(n+4))
	l[n/2+1], l[n/2+2], l[n-2] = eq(v(n+5), v(n+6)), eq(v(n+6), v(n+7)), eq(v(n+7), truth())
	if got, e := mus.Core(l...); e != api.OK || !slices.Equal(got, want) {
		t.Errorf("Core: %v, %v", got, e)
	}
	got, e := mus.Among(l, func(i int) bool { return i%2 == 0 })
	if e != api.OK || !slices.Equal(got, want) {
		t.Errorf("Among: %v, %v", got, e)
	}
	if !mus.Minimal(l, want...) {
		t.Error("Minimal")
	}
}

func TestDeepTypes(t *testing.T) {
	defer debug.SetMaxStack(debug.SetMaxStack(1 << 20))
	left, right := v(0), v(1)
	for range deep {
		left, right = arrow(left, number()), arrow(right, v(2))
	}
	l := []api.Eq{eq(left, right), eq(v(1), number()), eq(v(3), left), eq(v(0), truth()), eq(v(2), number())}
	wantCore(t, "a clash deep down", l, []int{0, 1, 3})
	if got, e := mus.Cores(9, l...); e != api.OK || !sameCores(got, [][]int{{0, 1, 3}}) {
		t.Errorf("Cores: %v, %v", got, e)
	}
	l = []api.Eq{eq(left, right), eq(v(4), v(4)), eq(v(3), left), eq(v(1), v(3))}
	wantCore(t, "a cycle", l, []int{0, 2, 3})
	wrong := typ(api.TInt, 7)
	for range deep {
		wrong = arrow(wrong, number())
	}
	wantErrors(t, "wrong deep down", append(l, eq(v(0), wrong)), api.ErrArg)
}

// rules 4, 6 and 7

func copies(l []api.Eq) []api.Eq {
	var c []api.Eq
	for _, e := range l {
		c = append(c, api.Eq{L: types.Copy(e.L), R: types.Copy(e.R), At: e.At})
	}
	return c
}

func sameEqs(a, b []api.Eq) bool {
	return slices.EqualFunc(a, b, func(x, y api.Eq) bool {
		return types.Same(x.L, y.L) && types.Same(x.R, y.R) && x.At == y.At
	})
}

func TestWhatIsHandedInStays(t *testing.T) {
	whole := list(t, unlike+"; 'e = int -> 'f; 'g = 'h")
	before := copies(whole)
	l := whole[:6] // with spare room behind it
	numbers := []int{5, 1, 4, 1, 77, 66}
	n := numbers[:4]
	mus.Core(l...)
	mus.Count(l...)
	mus.Minimal(l, n...)
	mus.Among(l, func(i int) bool { return i%2 == 0 })
	mus.Cores(5, l...)
	if !sameEqs(whole, before) || !slices.Equal(numbers, []int{5, 1, 4, 1, 77, 66}) {
		t.Error("what is handed in is changed")
	}
}

// spoil writes into numbers, and into their spare room.
func spoil(l []int) {
	l = l[:cap(l)]
	for i := range l {
		l[i] = -7
	}
}

func TestAnswersAreNewMemory(t *testing.T) {
	l := list(t, unlike)
	cores, _ := mus.Cores(9, l...)
	want := make([][]int, len(cores))
	for i, core := range cores {
		want[i] = slices.Clone(core)
	}
	for i, core := range cores {
		if !slices.Equal(core, want[i]) {
			t.Fatalf("the core %d shares memory", i)
		}
		spoil(core)
	}
	clear(cores[:cap(cores)])
	for range 2 {
		wantCores(t, "spoilt", l, want)
		core, _ := mus.Core(l...)
		counted, _, _ := mus.Count(l...)
		among, _ := mus.Among(l, nil)
		for _, got := range [][]int{core, counted, among} {
			if !slices.Equal(got, want[0]) {
				t.Fatalf("%v, want %v", got, want[0])
			}
			spoil(got)
		}
	}
}

// The same calls have the same answers, and are as often solved.
func TestSameCallsAnswerTheSame(t *testing.T) {
	do := func() []int {
		by := begin(3)
		var told []int
		for range 200 {
			l := by.eqs(10, 6, 1)
			core, times, e := mus.Count(l...)
			told = append(append(told, core...), times, int(e))
			cores, _ := mus.Cores(3, l...)
			for _, core := range cores {
				told = append(told, core...)
			}
		}
		return told
	}
	if !slices.Equal(do(), do()) {
		t.Error("two answers are unlike")
	}
}

func TestListsWithoutElements(t *testing.T) {
	wantErrors(t, "an empty list", []api.Eq{}, api.ErrNone)
	empty := api.Type{Kind: api.TInt, Parts: []api.Type{}}
	wantCore(t, "int with an empty list", []api.Eq{eq(empty, truth())}, []int{0})
	wantErrors(t, "int with an empty list", []api.Eq{eq(empty, number())}, api.ErrNone)
	if mus.Minimal([]api.Eq{eq(empty, truth())}, []int{}...) {
		t.Error("Minimal of an empty list")
	}
}

// Spans don't matter.
func TestSpansDontMatter(t *testing.T) {
	l := list(t, unlike)
	want, _ := mus.Core(l...)
	for i := range l {
		l[i].At = api.Span{From: 9 - i, To: math.MinInt + i}
	}
	wantCore(t, "other spans", l, want)
}
