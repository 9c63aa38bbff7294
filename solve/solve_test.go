package solve_test

import (
	"math"
	"math/bits"
	"math/rand/v2"
	"runtime/debug"
	"slices"
	"testing"

	"pangram/api"
	"pangram/solve"
	"pangram/subst"
	"pangram/types"
)

const deep = 1 << 16 // levels: calls within calls as deep would take more than the stack that TestDeepTypes gives

const greatest = 1<<30 - 1 // the last variable

const plenty = 1 << 20 // a size that no small type has

func typ(kind, n int, parts ...api.Type) api.Type {
	return api.Type{Kind: kind, N: n, Parts: parts}
}

func v(n int) api.Type { return typ(api.TVar, n) }

func arrow(a, b api.Type) api.Type { return typ(api.TArrow, 0, a, b) }

func tuple(parts ...api.Type) api.Type { return typ(api.TTuple, 0, parts...) }

func truth() api.Type { return typ(api.TBool, 0) }

func number() api.Type { return typ(api.TInt, 0) }

func many(n int, t api.Type) []api.Type { return slices.Repeat([]api.Type{t}, n) }

func bind(n int, t api.Type) api.Bind { return api.Bind{Var: n, Type: t} }

func eq(l, r api.Type) api.Eq { return api.Eq{L: l, R: r, At: api.Span{From: 3, To: 4}} }

// wrongTypes is types that aren't right, by what is wrong with them.
func wrongTypes() map[string]api.Type {
	return map[string]api.Type{
		"the zero one":                 {},
		"a kind above 5":               typ(6, 0),
		"a variable below 0":           v(-1),
		"a variable of 2^30":           v(1 << 30),
		"a variable with a part":       typ(api.TVar, 0, v(0)),
		"int with a number":            typ(api.TInt, 1),
		"int with a part":              typ(api.TInt, 0, v(0)),
		"an arrow of one part":         typ(api.TArrow, 0, v(0)),
		"a tuple of one part":          tuple(v(0)),
		"a tuple of nine parts":        tuple(many(9, v(0))...),
		"a wrong part behind others":   tuple(v(0), arrow(v(0), number()), v(-1)),
		"a wrong part, further inside": arrow(v(0), tuple(truth(), arrow(tuple(v(1)), truth()))),
	}
}

// text is equations as a text, so that a test tells which ones fail.
func text(l []api.Eq) string {
	s := ""
	for _, e := range l {
		s += types.Print(e.L) + " = " + types.Print(e.R) + "; "
	}
	return s
}

// told is binds as a text.
func told(l []api.Bind) string {
	s := ""
	for i, b := range l {
		if i > 0 {
			s += "; "
		}
		s += types.Name(b.Var) + ": " + types.Print(b.Type)
	}
	return s
}

// second is what equations say, worked out a second way, one bind behind the other: what is bound is put into all that is left.
type second struct {
	binds []api.Bind // solved
	e     api.Errno
	todo  []api.Eq
}

// into puts a type for a variable into all.
func (s *second) into(n int, t api.Type) {
	b := []api.Bind{bind(n, t)}
	for i := range s.binds {
		s.binds[i].Type = subst.Apply(b, s.binds[i].Type)
	}
	for i, e := range s.todo {
		s.todo[i] = eq(subst.Apply(b, e.L), subst.Apply(b, e.R))
	}
	s.binds = append(s.binds, b[0])
}

// step takes one equation.
func (s *second) step() {
	l, r := s.todo[0].L, s.todo[0].R
	s.todo = s.todo[1:]
	if l.Kind != api.TVar {
		l, r = r, l
	}
	switch {
	case types.Same(l, r):
	case l.Kind == api.TVar && r.Kind == api.TVar:
		s.into(max(l.N, r.N), v(min(l.N, r.N)))
	case l.Kind == api.TVar && types.Has(r, l.N):
		s.e = api.ErrCycle
	case l.Kind == api.TVar:
		s.into(l.N, r)
	case l.Kind != r.Kind || len(l.Parts) != len(r.Parts):
		s.e = api.ErrClash
	}
	if l.Kind != api.TVar && s.e == api.OK {
		for i := range l.Parts {
			s.todo = append(s.todo, eq(l.Parts[i], r.Parts[i]))
		}
	}
}

// secondly is whether equations can be solved, and their binds, rising.
func secondly(l []api.Eq) ([]api.Bind, bool) {
	s := second{todo: slices.Clone(l)}
	for len(s.todo) > 0 && s.e == api.OK {
		s.step()
	}
	slices.SortFunc(s.binds, func(a, b api.Bind) int { return a.Var - b.Var })
	return s.binds, s.e == api.OK
}

func sameBinds(a, b []api.Bind) bool {
	return slices.EqualFunc(a, b, func(x, y api.Bind) bool { return x.Var == y.Var && types.Same(x.Type, y.Type) })
}

// size is the size of all sides.
func size(l []api.Eq) int {
	n := 0
	for _, e := range l {
		n += types.Size(e.L) + types.Size(e.R)
	}
	return n
}

// wantSat wants what Sat and Count tell.
func wantSat(t *testing.T, what any, l []api.Eq, want api.Errno) {
	t.Helper()
	if got := solve.Sat(l...); got != want {
		t.Fatalf("%v: Sat: %v, want %v", what, got, want)
	}
	sum := size(l) + 1
	got, steps := solve.Count(l...)
	if bound := 100 * sum * (bits.Len(uint(sum)) + 2); got != want || steps < 0 || steps > bound {
		t.Fatalf("%v: Count: %v, %d steps, want %v, bound %d", what, got, steps, want, bound)
	}
}

// wantError wants an error of all calls.
func wantError(t *testing.T, what any, l []api.Eq, want api.Errno) {
	t.Helper()
	wantSat(t, what, l, want)
	for _, most := range []int{plenty, 0, -1, math.MaxInt, math.MinInt} {
		if binds, e := solve.Solve(most, l...); e != want || binds != nil {
			t.Fatalf("%v: Solve: %v, %v, want %v", what, told(binds), e, want)
		}
		for _, x := range []api.Type{v(0), number(), arrow(v(77), v(0))} {
			if u, e := solve.Type(most, x, l...); e != want || u.Kind != 0 || u.N != 0 || u.Parts != nil {
				t.Fatalf("%v: Type: %v, %v, want %v", what, u, e, want)
			}
		}
	}
}

// wantType wants what comes of a type, and that it is told up to its size alone.
func wantType(t *testing.T, what any, l []api.Eq, x, want api.Type) {
	t.Helper()
	for _, more := range []int{0, 1, plenty} {
		if got, e := solve.Type(types.Size(want)+more, x, l...); e != api.OK || !types.Same(got, want) {
			t.Fatalf("%v: Type of %s: %s, %v, want %s", what, types.Print(x), types.Print(got), e, types.Print(want))
		}
	}
	for _, most := range []int{types.Size(want) - 1, 0, -1, math.MinInt} {
		if got, e := solve.Type(most, x, l...); e != api.ErrMany || got.Kind != 0 || got.N != 0 || got.Parts != nil {
			t.Fatalf("%v: Type of %s up to %d: %v, %v", what, types.Print(x), most, got, e)
		}
	}
}

// wantSolution wants binds, and that they are told up to the greatest one's size alone.
func wantSolution(t *testing.T, what any, l []api.Eq, want []api.Bind) {
	t.Helper()
	wantSat(t, what, l, api.OK)
	most := math.MinInt
	for _, b := range want {
		most = max(most, types.Size(b.Type))
	}
	for _, n := range []int{most, max(most, 0) + 1, plenty} {
		if got, e := solve.Solve(n, l...); e != api.OK || !sameBinds(got, want) {
			t.Fatalf("%v: Solve: %s, %v, want %s", what, told(got), e, told(want))
		}
	}
	if most > 0 {
		for _, n := range []int{most - 1, 0, -1, math.MinInt} {
			if got, e := solve.Solve(n, l...); e != api.ErrMany || got != nil {
				t.Fatalf("%v: Solve up to %d: %s, %v", what, n, told(got), e)
			}
		}
	}
}

// hold holds all that is told of equations against what comes of them a second way.
func hold(t *testing.T, what any, l []api.Eq) {
	t.Helper()
	binds, ok := secondly(l)
	if !ok {
		// A second way may find a cycle ahead of a clash.
		e := solve.Sat(l...)
		if e != api.ErrClash && e != api.ErrCycle {
			t.Fatalf("%v: Sat: %v", what, e)
		}
		wantError(t, what, l, e)
		return
	}
	wantSolution(t, what, l, binds)
	for _, x := range []api.Type{v(0), v(1), v(77), truth(), arrow(v(2), tuple(v(1), number(), v(2)))} {
		wantType(t, what, l, x, subst.Apply(binds, x))
	}
	consequences(t, what, l, binds)
}

// consequences holds a solution to what follows.
func consequences(t *testing.T, what any, l []api.Eq, binds []api.Bind) {
	t.Helper()
	if !subst.Right(binds) || !subst.Solved(binds) || !subst.Solves(binds, l...) {
		t.Fatalf("%v: %s is no solution", what, told(binds))
	}
	again, e := solve.Solve(plenty, solve.Equations(binds...)...)
	if e != api.OK || !sameBinds(again, binds) {
		t.Fatalf("%v: solved again: %s, %v, want %s", what, told(again), e, told(binds))
	}
}

// solved is equations that can be solved, with what their solution is.
func solved() map[string]struct {
	l    []api.Eq
	want string
} {
	return map[string]struct {
		l    []api.Eq
		want string
	}{
		"no equations":              {nil, ""},
		"without variables":         {[]api.Eq{eq(number(), number()), eq(arrow(number(), truth()), arrow(number(), truth()))}, ""},
		"'a = 'a":                   {[]api.Eq{eq(v(0), v(0)), eq(arrow(v(1), v(0)), arrow(v(1), v(0)))}, ""},
		"'b = 'a":                   {[]api.Eq{eq(v(1), v(0))}, "'b: 'a"},
		"'a = 'b":                   {[]api.Eq{eq(v(0), v(1))}, "'b: 'a"},
		"to the least one":          {[]api.Eq{eq(v(5), v(9)), eq(v(7), v(3)), eq(v(9), v(7))}, "'f: 'd; 'h: 'd; 'j: 'd"},
		"the last variable":         {[]api.Eq{eq(v(greatest), arrow(v(greatest-1), v(0)))}, types.Name(greatest) + ": " + types.Name(greatest-1) + " -> 'a"},
		"int":                       {[]api.Eq{eq(number(), v(3))}, "'d: int"},
		"int for a class":           {[]api.Eq{eq(v(4), v(2)), eq(v(3), v(4)), eq(v(2), number())}, "'c: int; 'd: int; 'e: int"},
		"rising":                    {[]api.Eq{eq(v(9), number()), eq(v(0), truth()), eq(v(30), v(5)), eq(v(4), number()), eq(v(27), v(1))}, "'a: bool; 'e: int; 'j: int; 'b1: 'b; 'e1: 'f"},
		"a bind within":             {[]api.Eq{eq(v(0), arrow(v(1), number())), eq(v(1), truth())}, "'a: bool -> int; 'b: bool"},
		"binds within binds":        {[]api.Eq{eq(v(0), tuple(v(1), v(2))), eq(v(1), arrow(v(2), v(2))), eq(v(2), tuple(v(3), v(4))), eq(v(4), v(3))}, "'a: ((('d * 'd) -> ('d * 'd)) * ('d * 'd)); 'b: ('d * 'd) -> ('d * 'd); 'c: ('d * 'd); 'e: 'd"},
		"of two sides of one":       {[]api.Eq{eq(v(0), arrow(v(1), number())), eq(v(0), arrow(truth(), v(2)))}, "'a: bool -> int; 'b: bool; 'c: int"},
		"of sides alone":            {[]api.Eq{eq(arrow(v(3), tuple(v(2), number())), arrow(v(1), tuple(truth(), v(0))))}, "'a: int; 'c: bool; 'd: 'b"},
		"a least one further in":    {[]api.Eq{eq(v(8), arrow(v(7), v(6))), eq(v(6), v(7)), eq(v(7), v(2))}, "'g: 'c; 'h: 'c; 'i: 'c -> 'c"},
		"a part that has variables": {[]api.Eq{eq(v(1), arrow(v(2), v(3))), eq(v(0), v(1)), eq(v(5), v(1))}, "'a: 'c -> 'd; 'b: 'c -> 'd; 'f: 'c -> 'd"},
		"a tuple of eight":          {[]api.Eq{eq(tuple(v(0), v(1), v(2), v(3), v(4), v(5), v(6), v(7)), tuple(v(1), v(2), v(3), number(), v(5), v(6), v(7), v(8)))}, "'a: int; 'b: int; 'c: int; 'd: int; 'f: 'e; 'g: 'e; 'h: 'e; 'i: 'e"},
		"one equation twice":        {[]api.Eq{eq(v(0), arrow(v(1), v(1))), eq(v(0), arrow(v(1), v(1)))}, "'a: 'b -> 'b"},
		"what seems to be in itself": {[]api.Eq{eq(v(0), arrow(v(1), v(2))), eq(v(1), arrow(v(2), v(3))), eq(arrow(v(2), v(3)), arrow(v(3), v(2)))},
			"'a: ('c -> 'c) -> 'c; 'b: 'c -> 'c; 'd: 'c"},
	}
}

// failing is right equations that can't be solved, with what is told.
func failing() map[string]struct {
	l    []api.Eq
	want api.Errno
} {
	inside := func(t api.Type) api.Type { return arrow(v(9), tuple(number(), arrow(t, truth()))) }
	return map[string]struct {
		l    []api.Eq
		want api.Errno
	}{
		"int and bool":               {[]api.Eq{eq(number(), truth())}, api.ErrClash},
		"an arrow and a pair":        {[]api.Eq{eq(arrow(v(0), v(1)), tuple(v(0), v(1)))}, api.ErrClash},
		"a pair and three":           {[]api.Eq{eq(tuple(v(0), v(1)), tuple(v(0), v(1), v(2)))}, api.ErrClash},
		"deep down":                  {[]api.Eq{eq(inside(number()), inside(truth()))}, api.ErrClash},
		"of a class":                 {[]api.Eq{eq(v(0), number()), eq(v(1), truth()), eq(v(0), v(1))}, api.ErrClash},
		"a clash, others around":     {[]api.Eq{eq(v(0), v(1)), eq(v(0), number()), eq(v(2), arrow(v(3), v(3))), eq(v(1), truth()), eq(v(5), v(6))}, api.ErrClash},
		"a clash behind a cycle":     {[]api.Eq{eq(v(0), arrow(v(0), v(0))), eq(v(1), number()), eq(v(1), truth())}, api.ErrClash},
		"a clash ahead of a cycle":   {[]api.Eq{eq(number(), truth()), eq(v(0), arrow(v(0), v(0)))}, api.ErrClash},
		"a clash within a cycle":     {[]api.Eq{eq(v(0), arrow(v(0), v(1))), eq(v(1), tuple(v(0), v(1))), eq(v(1), v(0))}, api.ErrClash},
		"'a = 'a -> int":             {[]api.Eq{eq(v(0), arrow(v(0), number()))}, api.ErrCycle},
		"a cycle, others around":     {[]api.Eq{eq(v(5), number()), eq(v(0), arrow(v(0), number())), eq(v(6), v(7))}, api.ErrCycle},
		"a cycle through several":    {[]api.Eq{eq(v(0), arrow(v(1), number())), eq(v(1), tuple(truth(), v(2))), eq(v(2), arrow(v(3), v(3))), eq(v(3), v(0))}, api.ErrCycle},
		"a cycle of sides":           {[]api.Eq{eq(arrow(v(0), v(1)), arrow(arrow(v(1), number()), v(0)))}, api.ErrCycle},
		"a cycle that is told twice": {[]api.Eq{eq(v(0), arrow(v(0), number())), eq(v(0), arrow(v(0), number()))}, api.ErrCycle},
	}
}

// P14.1

func TestSat(t *testing.T) {
	for name, c := range solved() {
		wantSat(t, name, c.l, api.OK)
	}
	for name, c := range failing() {
		wantError(t, name, c.l, c.want)
	}
}

func TestSidesThatArentRight(t *testing.T) {
	ahead := map[string][]api.Eq{
		"alone":    nil,
		"solved":   {eq(v(0), v(1)), eq(v(1), arrow(v(2), number()))},
		"a clash":  {eq(v(0), number()), eq(v(0), truth())},
		"a cycle":  {eq(v(0), arrow(v(0), v(1)))},
		"of sides": {eq(number(), truth()), eq(v(5), tuple(v(5), v(5)))},
	}
	for name, wrong := range wrongTypes() {
		for around, l := range ahead {
			for _, e := range []api.Eq{eq(wrong, v(3)), eq(v(3), wrong), eq(wrong, wrong), eq(number(), wrong), eq(wrong, number())} {
				what := name + ", " + around
				wantError(t, what, append(slices.Clone(l), e), api.ErrArg)
				wantError(t, what, append([]api.Eq{e}, l...), api.ErrArg)
				wantError(t, what, slices.Concat(l, []api.Eq{e}, l), api.ErrArg)
			}
		}
	}
	wantError(t, "the zero equation", []api.Eq{{}}, api.ErrArg)
	// What equations are charged with doesn't matter.
	wantSat(t, "a span that isn't right", []api.Eq{{L: v(0), R: v(1), At: api.Span{From: -3, To: -9}}}, api.OK)
}

// workloads is many equations, with what is told of them.
func workloads(n int) map[string]struct {
	l    []api.Eq
	want api.Errno
} {
	var chain, back, flat, wide, pairs, alike, clashes []api.Eq
	for i := range n {
		chain = append(chain, eq(v(i), arrow(number(), v(i+1))))
		back = append(back, eq(v(n-i), arrow(v(n-i-1), number())))
		flat = append(flat, eq(v(i), v(i+1)))
		wide = append(wide, eq(v(i), tuple(many(8, v(i+1))...)))
		pairs = append(pairs, eq(v(2*i), arrow(v(2*i+2), v(2*i+2))), eq(v(2*i+1), arrow(v(2*i+3), v(2*i+3))))
		alike = append(alike, eq(v(0), arrow(tuple(many(8, v(i))...), v(n))))
		clashes = append(clashes, eq(number(), truth()))
	}
	type load = struct {
		l    []api.Eq
		want api.Errno
	}
	with := func(l []api.Eq, more ...api.Eq) []api.Eq { return slices.Concat(l, more) }
	return map[string]load{
		"a chain":             {chain, api.OK},
		"a chain, backwards":  {back, api.OK},
		"a round":             {with(chain, eq(v(n), arrow(v(0), v(0)))), api.ErrCycle},
		"a round, backwards":  {with(back, eq(v(0), arrow(v(n), v(n)))), api.ErrCycle},
		"one class":           {flat, api.OK},
		"one class, a clash":  {with(flat, eq(v(0), number()), eq(v(n), truth())), api.ErrClash},
		"tuples of eight":     {wide, api.OK},
		"tuples of eight, to": {with(wide, eq(v(0), v(n))), api.ErrCycle},
		"two chains, joined":  {with(pairs, eq(v(0), v(1))), api.OK},
		"two, a clash behind": {with(pairs, eq(v(0), v(1)), eq(v(2*n), number()), eq(v(2*n+1), truth())), api.ErrClash},
		"in themselves":       {alike, api.ErrCycle},
		"many clashes":        {clashes, api.ErrClash},
	}
}

func TestStepsWithinBound(t *testing.T) {
	for _, n := range []int{1, 2, 3, 10, 100, 1 << 14} {
		for name, c := range workloads(n) {
			wantSat(t, name, c.l, c.want)
			if _, steps := solve.Count(c.l...); steps < 1 {
				t.Errorf("%d, %s: no steps", n, name)
			}
		}
	}
}

// P14.2

func TestSolve(t *testing.T) {
	for name, c := range solved() {
		got, e := solve.Solve(plenty, c.l...)
		if e != api.OK || told(got) != c.want {
			t.Errorf("%s: %s, %v, want %s", name, told(got), e, c.want)
		}
		if c.want == "" && got != nil {
			t.Errorf("%s: a list", name)
		}
		wantSolution(t, name, c.l, got)
		hold(t, name, c.l)
	}
}

// Without a bind nothing is too great.
func TestSolveWithoutBinds(t *testing.T) {
	for name, l := range map[string][]api.Eq{"none": nil, "of none": {}, "types alone": {eq(arrow(number(), truth()), arrow(number(), truth()))}, "one alone": {eq(v(0), v(0))}} {
		for _, most := range []int{math.MinInt, -1, 0, 1, math.MaxInt} {
			if binds, e := solve.Solve(most, l...); binds != nil || e != api.OK {
				t.Errorf("%s, up to %d: %s, %v", name, most, told(binds), e)
			}
		}
	}
}

// A bind to a variable alone is too great for 0, also ahead of greater ones.
func TestSolveUpToTheGreatest(t *testing.T) {
	l := []api.Eq{eq(v(1), v(0)), eq(v(2), tuple(v(1), v(1), v(0))), eq(v(3), arrow(v(2), v(2))), eq(v(4), number())}
	for most, want := range map[int]api.Errno{-1: api.ErrMany, 0: api.ErrMany, 1: api.ErrMany, 4: api.ErrMany, 8: api.ErrMany, 9: api.OK, 10: api.OK, math.MaxInt: api.OK} {
		if binds, e := solve.Solve(most, l...); e != want || (binds == nil) != (want != api.OK) {
			t.Errorf("up to %d: %s, %v", most, told(binds), e)
		}
	}
	for most, want := range map[int]api.Errno{-1: api.ErrMany, 0: api.ErrMany, 1: api.OK} {
		if _, e := solve.Solve(most, l[0]); e != want {
			t.Errorf("up to %d, of a variable: %v", most, e)
		}
	}
}

func TestType(t *testing.T) {
	l := []api.Eq{eq(v(0), arrow(v(1), number())), eq(v(1), v(3)), eq(v(2), v(1)), eq(v(5), truth())}
	for name, c := range map[string]struct{ of, want api.Type }{
		"without variables":        {tuple(number(), truth()), tuple(number(), truth())},
		"one that is bound":        {v(0), arrow(v(1), number())},
		"to the least one":         {v(3), v(1)},
		"the least one":            {v(1), v(1)},
		"one that stands nowhere":  {v(77), v(77)},
		"the last one":             {v(greatest), v(greatest)},
		"some that stand nowhere":  {arrow(v(77), tuple(v(4), v(0), v(77))), arrow(v(77), tuple(v(4), arrow(v(1), number()), v(77)))},
		"one again and again":      {tuple(v(0), v(0), arrow(v(0), v(2))), tuple(arrow(v(1), number()), arrow(v(1), number()), arrow(arrow(v(1), number()), v(1)))},
		"all":                      {tuple(v(0), v(1), v(2), v(3), v(4), v(5)), tuple(arrow(v(1), number()), v(1), v(1), v(1), v(4), truth())},
		"deep down":                {arrow(number(), arrow(tuple(truth(), v(5)), v(2))), arrow(number(), arrow(tuple(truth(), truth()), v(1)))},
		"a bind's type as it is":   {arrow(v(1), number()), arrow(v(1), number())},
		"a variable at both sides": {arrow(v(3), v(2)), arrow(v(1), v(1))},
	} {
		wantType(t, name, l, c.of, c.want)
		wantType(t, name+", without equations", nil, c.of, c.of)
	}
}

func TestTypeThatIsntRight(t *testing.T) {
	for name, wrong := range wrongTypes() {
		for around, l := range map[string][]api.Eq{
			"no equations":           nil,
			"solved":                 {eq(v(0), number())},
			"a clash":                {eq(v(0), number()), eq(v(0), truth())},
			"a cycle":                {eq(v(0), arrow(v(0), v(0)))},
			"a side that isn't":      {eq(v(-1), v(0))},
			"the type itself, twice": {eq(wrong, wrong)},
		} {
			for _, most := range []int{plenty, 0, -1, math.MaxInt} {
				if got, e := solve.Type(most, wrong, l...); e != api.ErrArg || got.Kind != 0 || got.N != 0 || got.Parts != nil {
					t.Errorf("%s, %s: %v, %v", name, around, got, e)
				}
			}
		}
	}
	// The equations' error comes ahead of what is too great.
	for name, c := range failing() {
		if _, e := solve.Type(-1, arrow(v(0), v(1)), c.l...); e != c.want {
			t.Errorf("%s: %v", name, e)
		}
		if _, e := solve.Solve(-1, c.l...); e != c.want {
			t.Errorf("%s: %v", name, e)
		}
	}
}

// doubling is equations by which the variable i + 1 stands for an arrow from the variable i to that, up to n.
func doubling(n int) []api.Eq {
	var l []api.Eq
	for i := range n {
		l = append(l, eq(v(i+1), arrow(v(i), v(i))))
	}
	return l
}

func TestGreatTypes(t *testing.T) {
	l := append(doubling(300), eq(v(400), v(401)))
	wantSat(t, "doubling", l, api.OK)
	for _, most := range []int{math.MinInt, 0, 4096, math.MaxInt32, 1 << 40, math.MaxInt - 1, math.MaxInt} {
		if binds, e := solve.Solve(most, l...); binds != nil || e != api.ErrMany {
			t.Errorf("Solve up to %d: %v", most, e)
		}
		for _, x := range []api.Type{v(300), tuple(many(8, v(299))...), arrow(v(0), arrow(v(100), number()))} {
			if got, e := solve.Type(most, x, l...); got.Kind != 0 || e != api.ErrMany {
				t.Errorf("Type of %s up to %d: %v", types.Print(x), most, e)
			}
		}
	}
	// The sum alone is too great.
	if _, e := solve.Type(1<<11, tuple(v(9), v(9)), l...); e != api.OK {
		t.Errorf("Type of two: %v", e)
	}
	if _, e := solve.Type(1<<11-2, tuple(v(9), v(9)), l...); e != api.ErrMany {
		t.Errorf("Type of two, up to one less: %v", e)
	}
	// What is too great elsewhere doesn't matter.
	wantType(t, "doubling", l, tuple(v(1), v(401), v(2)), tuple(arrow(v(0), v(0)), v(400), arrow(arrow(v(0), v(0)), arrow(v(0), v(0)))))
	for n := range 12 {
		got, e := solve.Type(2<<n-1, v(n), l...)
		if e != api.OK || types.Size(got) != 2<<n-1 || types.Depth(got) != n+1 {
			t.Errorf("Type of %d: size %d, %v", n, types.Size(got), e)
		}
		if _, e := solve.Type(2<<n-2, v(n), l...); e != api.ErrMany {
			t.Errorf("Type of %d, up to one less: %v", n, e)
		}
		if binds, e := solve.Solve(2<<n-1, doubling(n)...); e != api.OK || len(binds) != n {
			t.Errorf("Solve of %d: %d, %v", n, len(binds), e)
		}
	}
	round := append(doubling(300), eq(v(0), tuple(v(300), number())))
	wantError(t, "doubling, in a round", round, api.ErrCycle)
}

func TestEquations(t *testing.T) {
	for name, l := range map[string][]api.Bind{
		"of none":                 {},
		"one":                     {bind(3, arrow(v(1), number()))},
		"one variable twice":      {bind(3, number()), bind(3, truth()), bind(1, v(3)), bind(3, number())},
		"falling":                 {bind(9, v(0)), bind(5, v(1)), bind(0, number())},
		"of itself":               {bind(2, v(2)), bind(1, arrow(v(1), v(1)))},
		"variables that may't be": {bind(-1, number()), bind(1<<30, number()), bind(math.MinInt, number()), bind(math.MaxInt, number())},
		"types that aren't right": {bind(0, api.Type{}), bind(1, typ(9, 3, v(0))), bind(2, typ(api.TVar, 1, v(-5), number())), {}},
	} {
		got := solve.Equations(l...)
		if len(got) != len(l) || len(l) == 0 && got != nil {
			t.Fatalf("%s: %d", name, len(got))
		}
		for i, e := range got {
			if !types.Same(e.L, v(l[i].Var)) || !types.Same(e.R, l[i].Type) || e.At != (api.Span{}) {
				t.Errorf("%s: %d: %v", name, i, e)
			}
		}
	}
	if got := solve.Equations(); got != nil {
		t.Errorf("of no bind: %v", got)
	}
	for name, wrong := range wrongTypes() {
		got := solve.Equations(bind(4, wrong))
		if len(got) != 1 || !types.Same(got[0].R, wrong) || solve.Sat(got...) != api.ErrArg {
			t.Errorf("%s: %v", name, got)
		}
	}
	if e := solve.Sat(solve.Equations(bind(3, number()), bind(3, truth()))...); e != api.ErrClash {
		t.Errorf("one variable twice: Sat: %v", e)
	}
}

// P14.3

// smallTypes is types of at most two levels.
func smallTypes() []api.Type {
	alone := []api.Type{v(0), v(1), number()}
	l := append(slices.Clone(alone), truth(), v(2), tuple(v(0), v(1), v(2)))
	for _, a := range alone {
		for _, b := range alone {
			l = append(l, arrow(a, b))
		}
	}
	return append(l, tuple(number(), v(2)), arrow(v(2), v(0)))
}

func smallEqs() []api.Eq {
	var l []api.Eq
	for i, a := range smallTypes() {
		for _, b := range smallTypes()[:i+1] {
			l = append(l, eq(a, b))
		}
	}
	return l
}

func TestSmallEquations(t *testing.T) {
	l := smallEqs()
	for i, a := range l {
		hold(t, text([]api.Eq{a}), []api.Eq{a})
		for _, b := range l[:i+1] {
			hold(t, text([]api.Eq{a, b}), []api.Eq{a, b})
		}
	}
}

// chance gives types of a few variables, the same ones whenever the tests run.
type chance struct{ *rand.Rand }

func begin(n uint64) chance { return chance{rand.New(rand.NewPCG(n, 14))} }

func (c chance) typ(vars, depth int) api.Type {
	n := c.IntN(10)
	switch {
	case n < 4 || depth == 0:
		return v(c.IntN(vars))
	case n == 4:
		return number()
	case n < 8:
		return arrow(c.typ(vars, depth-1), c.typ(vars, depth-1))
	}
	parts := make([]api.Type, 2+c.IntN(2)*c.IntN(2))
	for i := range parts {
		parts[i] = c.typ(vars, depth-1)
	}
	return tuple(parts...)
}

func (c chance) eqs(n, vars, depth int) []api.Eq {
	var l []api.Eq
	for range n {
		l = append(l, eq(c.typ(vars, c.IntN(depth+1)), c.typ(vars, depth)))
	}
	return l
}

func TestRowsByChance(t *testing.T) {
	by := begin(1)
	told := map[api.Errno]int{}
	const rows = 6000
	for range rows {
		vars := 2 + by.IntN(12)
		l := by.eqs(1+by.IntN(vars), vars, 1+by.IntN(2))
		hold(t, text(l), l)
		told[solve.Sat(l...)]++
	}
	if min(told[api.OK], told[api.ErrClash], told[api.ErrCycle]) < rows/10 {
		t.Errorf("of %d rows: %v", rows, told)
	}
}

// grounds hands all substitutions of the variables from n on, ahead of vars, by some types, to a function.
func grounds(n, vars int, l []api.Bind, by []api.Type, visit func(l []api.Bind)) {
	if n == vars {
		visit(l)
		return
	}
	for _, x := range by {
		grounds(n+1, vars, append(slices.Clip(l), bind(n, x)), by, visit)
	}
}

// Each substitution that solves the equations comes of the solution; without one none does.
func TestAllThatSolve(t *testing.T) {
	by := []api.Type{v(0), v(1), v(7), number(), truth(), arrow(number(), number()), arrow(v(7), truth()), arrow(v(1), v(1)), tuple(number(), v(7)), tuple(number(), number(), number())}
	checked := 0
	eqs := smallEqs()
	for i, a := range eqs {
		l := []api.Eq{a, eqs[(i*31+7)%len(eqs)]}
		for _, l := range [][]api.Eq{l[:1], l} {
			binds, e := solve.Solve(plenty, l...)
			grounds(0, 3, nil, by, func(s []api.Bind) {
				solves := subst.Solves(s, l...)
				if solves {
					checked++
				}
				if solves && (e != api.OK || !subst.Alike(s, subst.Then(binds, s), 0, 1, 2, 7)) {
					t.Fatalf("%s: %s solves them, %s, %v", text(l), told(s), told(binds), e)
				}
				if e == api.OK && !subst.Solves(subst.Then(binds, s), l...) {
					t.Fatalf("%s: %s, and then %s doesn't solve them", text(l), told(binds), told(s))
				}
			})
		}
	}
	if checked < 1000 {
		t.Errorf("%d substitutions", checked)
	}
}

// permute hands a list in all orders, its first ones staying, to a function.
func permute(l []api.Eq, first int, visit func(l []api.Eq)) {
	if first == len(l) {
		visit(l)
		return
	}
	for i := first; i < len(l); i++ {
		l[first], l[i] = l[i], l[first]
		permute(l, first+1, visit)
		l[first], l[i] = l[i], l[first]
	}
}

// inAnyOrder wants the same of equations in all orders, with all ways to change their sides about.
func inAnyOrder(t *testing.T, what any, l []api.Eq) {
	t.Helper()
	want, e := solve.Solve(plenty, l...)
	permute(slices.Clone(l), 0, func(order []api.Eq) {
		for about := range 1 << len(order) {
			turned := slices.Clone(order)
			for i, x := range turned {
				if about>>i&1 == 1 {
					turned[i] = eq(x.R, x.L)
				}
			}
			if got, f := solve.Solve(plenty, turned...); f != e || !sameBinds(got, want) {
				t.Fatalf("%v, as %s: %s, %v, want %s, %v", what, text(turned), told(got), f, told(want), e)
			}
			if f := solve.Sat(turned...); f != e {
				t.Fatalf("%v, as %s: %v, want %v", what, text(turned), f, e)
			}
		}
	})
}

func TestOrderOfEquations(t *testing.T) {
	for name, c := range solved() {
		inAnyOrder(t, name, c.l)
	}
	for name, c := range failing() {
		inAnyOrder(t, name, c.l)
	}
	by := begin(2)
	for range 100 {
		l := by.eqs(4, 6, 1)
		inAnyOrder(t, text(l), l)
	}
}

// long and deep ones

func TestLongLists(t *testing.T) {
	const n = 1 << 11
	var l []api.Eq
	for i := range n {
		l = append(l, eq(v(i), arrow(number(), v(i+1))))
	}
	binds, e := solve.Solve(2*n+1, l...)
	if e != api.OK || len(binds) != n {
		t.Fatalf("a chain: %d, %v", len(binds), e)
	}
	for i, b := range binds {
		if size := 2*(n-i) + 1; b.Var != i || types.Size(b.Type) != size || types.Depth(b.Type) != n-i+1 || !types.Has(b.Type, n) {
			t.Fatalf("%d: %d, size %d, want %d", i, b.Var, types.Size(b.Type), size)
		}
	}
	if _, e := solve.Solve(2*n, l...); e != api.ErrMany {
		t.Errorf("a chain, up to one less: %v", e)
	}
	flat := workloads(1 << 15)["one class"].l
	binds, e = solve.Solve(1, flat...)
	if e != api.OK || len(binds) != 1<<15 {
		t.Fatalf("one class: %d, %v", len(binds), e)
	}
	for i, b := range binds {
		if b.Var != i+1 || !types.Same(b.Type, v(0)) {
			t.Fatalf("one class: %d: %d", i, b.Var)
		}
	}
}

func TestDeepTypes(t *testing.T) {
	defer debug.SetMaxStack(debug.SetMaxStack(1 << 20))
	left, right, other := v(0), v(1), truth()
	for range deep {
		left, right, other = arrow(left, number()), arrow(right, v(4)), arrow(other, number())
	}
	l := []api.Eq{eq(left, right), eq(v(5), right), eq(v(0), truth())}
	wantSat(t, "deep", l, api.OK)
	binds, e := solve.Solve(2*deep+1, l...)
	if e != api.OK || len(binds) != 4 || binds[3].Var != 5 || !types.Same(binds[3].Type, other) {
		t.Fatalf("Solve: %d, %v", len(binds), e)
	}
	if _, e := solve.Solve(2*deep, l...); e != api.ErrMany {
		t.Errorf("Solve up to one less: %v", e)
	}
	if got, e := solve.Type(2*deep+1, right, l...); e != api.OK || !types.Same(got, other) {
		t.Errorf("Type: %v", e)
	}
	if got := solve.Equations(bind(0, left)); !types.Same(got[0].R, left) {
		t.Error("Equations")
	}
	wantSat(t, "deep, a cycle", append(l[:2:2], eq(v(0), left)), api.ErrCycle)
	wantSat(t, "deep, a clash", append(l, eq(left, arrow(left, v(7)))), api.ErrClash)
}

// rules 4, 6 and 7

// The same calls have the same steps.
func TestSameCallsAnswerTheSame(t *testing.T) {
	do := func() []int {
		by := begin(3)
		var told []int
		for range 300 {
			e, steps := solve.Count(by.eqs(8, 8, 2)...)
			told = append(told, int(e), steps)
		}
		return told
	}
	if !slices.Equal(do(), do()) {
		t.Error("two answers are unlike")
	}
}

// spoil writes into all that a type is made of, and into its spare room.
func spoil(t *api.Type) {
	parts := t.Parts[:cap(t.Parts)]
	for i := range parts {
		spoil(&parts[i])
	}
	*t = typ(9, 9)
}

func copies(l []api.Eq) []api.Eq {
	var c []api.Eq
	for _, e := range l {
		c = append(c, api.Eq{L: types.Copy(e.L), R: types.Copy(e.R), At: e.At})
	}
	return c
}

func TestNothingIsShared(t *testing.T) {
	pair := arrow(v(2), number())
	// One type's memory in several places, so that answers could share it.
	l := []api.Eq{eq(v(0), tuple(v(1), v(1), pair)), eq(v(1), pair), eq(v(5), v(1)), eq(v(6), arrow(v(1), pair))}
	was := copies(l)
	x := tuple(v(1), v(0), v(1), pair)
	solution, _ := solve.Solve(plenty, l...)
	want, _ := solve.Type(plenty, x, l...)
	wantType(t, "shared", l, x, subst.Apply(solution, x))
	for range 2 {
		binds, _ := solve.Solve(plenty, l...)
		for i := range binds {
			spoil(&binds[i].Type)
			if i+1 < len(binds) && !types.Same(binds[i+1].Type, solution[i+1].Type) {
				t.Fatalf("the bind %d shares memory", i+1)
			}
		}
		got, _ := solve.Type(plenty, x, l...)
		for i := range got.Parts {
			spoil(&got.Parts[i])
			if i+1 < len(got.Parts) && !types.Same(got.Parts[i+1], want.Parts[i+1]) {
				t.Fatalf("the part %d shares memory", i+1)
			}
		}
	}
	for i, e := range l {
		if !types.Same(e.L, was[i].L) || !types.Same(e.R, was[i].R) || e.At != was[i].At {
			t.Fatal("what was handed in is changed")
		}
	}
	one := []api.Bind{bind(0, pair), bind(1, pair)}
	eqs := solve.Equations(one...)
	spoil(&eqs[0].R)
	if !types.Same(eqs[1].R, arrow(v(2), number())) || !types.Same(one[0].Type, arrow(v(2), number())) {
		t.Error("equations share memory")
	}
	// A bind's type has no part of another place of it.
	got, _ := solve.Solve(plenty, eq(v(0), tuple(v(1), v(1))), eq(v(1), pair))
	spoil(&got[0].Type.Parts[0])
	if !types.Same(got[0].Type.Parts[1], arrow(v(2), number())) {
		t.Error("parts of one type share memory")
	}
}

func TestListsWithoutElements(t *testing.T) {
	empty := api.Type{Kind: api.TInt, Parts: []api.Type{}}
	binds, e := solve.Solve(plenty, eq(v(0), empty), eq(number(), v(0)))
	if e != api.OK || told(binds) != "'a: int" {
		t.Errorf("Solve: %s, %v", told(binds), e)
	}
	if got, e := solve.Type(1, empty); e != api.OK || !types.Same(got, number()) {
		t.Errorf("Type: %v, %v", got, e)
	}
	wantSat(t, "of none", []api.Eq{}, api.OK)
}

func TestExampleOfTheDocument(t *testing.T) {
	binds, e := solve.Solve(3, eq(v(0), arrow(v(1), number())), eq(v(1), truth()))
	if e != api.OK || told(binds) != "'a: bool -> int; 'b: bool" {
		t.Errorf("%s, %v", told(binds), e)
	}
}
