package cycle_test

import (
	"maps"
	"math"
	"math/rand/v2"
	"runtime/debug"
	"slices"
	"testing"

	"pangram/api"
	"pangram/cycle"
	"pangram/types"
	"pangram/unify"
)

const deep = 1 << 17 // levels: calls within calls as deep would take more than the stack that TestDeepTypes gives

const greatest = 1<<30 - 1 // the last variable

const most = 1 << 40 // the greatest size that is told

func typ(kind, n int, parts ...api.Type) api.Type {
	return api.Type{Kind: kind, N: n, Parts: parts}
}

func v(n int) api.Type { return typ(api.TVar, n) }

func arrow(a, b api.Type) api.Type { return typ(api.TArrow, 0, a, b) }

func tuple(parts ...api.Type) api.Type { return typ(api.TTuple, 0, parts...) }

func truth() api.Type { return typ(api.TBool, 0) }

func number() api.Type { return typ(api.TInt, 0) }

func many(n int, t api.Type) []api.Type { return slices.Repeat([]api.Type{t}, n) }

func eq(l, r api.Type) api.Eq { return api.Eq{L: l, R: r, At: api.Span{From: 3, To: 4}} }

// outside is numbers that are no variable of the equations here.
func outside() []int {
	return []int{-1, 77, greatest, greatest + 1, math.MinInt, math.MaxInt}
}

// text is equations as a text, so that a test tells which ones fail.
func text(l []api.Eq) string {
	s := ""
	for _, e := range l {
		s += types.Print(e.L) + " = " + types.Print(e.R) + "; "
	}
	return s
}

// closure is the classes of equations.
func closure(l []api.Eq) *unify.Closure {
	c := unify.New()
	for _, e := range l {
		c.Equate(e.L, e.R)
	}
	return c
}

// second is the classes of equations, worked out a second way: parts with labels, those of one class the same, changed till nothing is left to be changed.
type second struct {
	parts []part
	label []int
	clash bool
}

// part is a part of equations.
type part struct {
	kind, n int
	parts   []int
}

// add gives the part that a type is.
func (s *second) add(t api.Type) int {
	p := part{kind: t.Kind, n: t.N}
	for _, x := range t.Parts {
		p.parts = append(p.parts, s.add(x))
	}
	for i, x := range s.parts {
		if p.kind == api.TVar && x.kind == api.TVar && x.n == p.n {
			return i
		}
	}
	s.parts, s.label = append(s.parts, p), append(s.label, len(s.parts))
	return len(s.parts) - 1
}

// join makes two labels one, and tells whether they were two.
func (s *second) join(a, b int) bool {
	from, to := s.label[a], s.label[b]
	for i := range s.label {
		if s.label[i] == from {
			s.label[i] = to
		}
	}
	return from != to
}

// round goes through all pairs of parts once, and tells whether labels were changed.
func (s *second) round() bool {
	changed := false
	for i, a := range s.parts {
		for j, b := range s.parts[:i] {
			if s.label[i] != s.label[j] || a.kind == api.TVar || b.kind == api.TVar {
				continue
			}
			if a.kind != b.kind || len(a.parts) != len(b.parts) {
				s.clash = true
				continue
			}
			for k := range a.parts {
				changed = s.join(a.parts[k], b.parts[k]) || changed
			}
		}
	}
	return changed
}

func classes(l []api.Eq) *second {
	s := &second{}
	for _, e := range l {
		left := s.add(e.L)
		s.join(left, s.add(e.R))
	}
	for s.round() {
	}
	return s
}

// below is the classes of the parts of a class.
func (s *second) below(label int) []int {
	for i, p := range s.parts {
		if s.label[i] == label && p.kind != api.TVar {
			var l []int
			for _, x := range p.parts {
				l = append(l, s.label[x])
			}
			return l
		}
	}
	return nil
}

// reached is all classes that one comes to from a class.
func (s *second) reached(label int) map[int]bool {
	found := map[int]bool{}
	for todo := s.below(label); len(todo) > 0; {
		x := todo[0]
		todo = todo[1:]
		if !found[x] {
			found[x] = true
			todo = append(todo, s.below(x)...)
		}
	}
	return found
}

// itself tells whether one comes from a class to itself.
func (s *second) itself(label int) bool { return s.reached(label)[label] }

func (s *second) finite() bool {
	return !s.clash && !slices.ContainsFunc(s.label, s.itself)
}

// cyclic is the variables that are.
func (s *second) cyclic() []int {
	var l []int
	for i, p := range s.parts {
		if p.kind == api.TVar && !s.clash {
			ways := slices.Collect(maps.Keys(s.reached(s.label[i])))
			if slices.ContainsFunc(ways, s.itself) {
				l = append(l, p.n)
			}
		}
	}
	slices.Sort(l)
	return l
}

// measures is the depth and the size of a class of finite ones.
func (s *second) measures(label int) (int, int) {
	depth, size := 0, 0
	for _, x := range s.below(label) {
		d, n := s.measures(x)
		depth, size = max(depth, d), size+n
	}
	return depth + 1, size + 1
}

// vars is the labels of all variables.
func (s *second) vars() map[int]int {
	m := map[int]int{}
	for i, p := range s.parts {
		if p.kind == api.TVar {
			m[p.n] = s.label[i]
		}
	}
	return m
}

// wantNothing wants no depth and no size.
func wantNothing(t *testing.T, what any, c *unify.Closure, vars ...int) {
	t.Helper()
	for _, a := range vars {
		if n, ok := cycle.Depth(c, a); n != 0 || ok {
			t.Fatalf("%v: Depth(%d): %d, %v", what, a, n, ok)
		}
		if n, ok := cycle.Size(c, a); n != 0 || ok {
			t.Fatalf("%v: Size(%d): %d, %v", what, a, n, ok)
		}
	}
}

// wantMeasures wants a depth and a size.
func wantMeasures(t *testing.T, what any, c *unify.Closure, a, depth, size int) {
	t.Helper()
	if n, ok := cycle.Depth(c, a); n != depth || !ok {
		t.Fatalf("%v: Depth(%d): %d, %v, want %d", what, a, n, ok, depth)
	}
	if n, ok := cycle.Size(c, a); n != size || !ok {
		t.Fatalf("%v: Size(%d): %d, %v, want %d", what, a, n, ok, size)
	}
}

// wantFinite wants what Finite and Count tell of equations with so many parts.
func wantFinite(t *testing.T, what any, c *unify.Closure, parts int, want bool) {
	t.Helper()
	if got := cycle.Finite(c); got != want {
		t.Fatalf("%v: Finite: %v", what, got)
	}
	got, steps := cycle.Count(c)
	if bound := 40 * (parts + 1); got != want || steps < 0 || steps > bound {
		t.Fatalf("%v: Count: %v, %d steps, bound %d", what, got, steps, bound)
	}
}

// hold holds all that is told of equations against what comes of them a second way.
func hold(t *testing.T, what any, l []api.Eq) {
	t.Helper()
	c, want := closure(l), classes(l)
	finite := want.finite()
	wantFinite(t, what, c, len(want.parts), finite)
	if got := cycle.Cyclic(c); !slices.Equal(got, want.cyclic()) {
		t.Fatalf("%v: Cyclic: %v, want %v", what, got, want.cyclic())
	}
	if !want.clash && finite != (len(cycle.Cyclic(c)) == 0) {
		t.Fatalf("%v: Finite: %v, though Cyclic is %v", what, finite, cycle.Cyclic(c))
	}
	wantNothing(t, what, c, outside()...)
	for a, label := range want.vars() {
		if !finite {
			wantNothing(t, what, c, a)
			continue
		}
		depth, size := want.measures(label)
		wantMeasures(t, what, c, a, depth, size)
	}
}

// measured is a variable's depth and size.
type measured struct{ v, depth, size int }

// finiteOnes is equations whose classes are finite, with what is told of variables.
func finiteOnes() map[string]struct {
	l    []api.Eq
	want []measured
} {
	return map[string]struct {
		l    []api.Eq
		want []measured
	}{
		"no equations":           {nil, nil},
		"without variables":      {[]api.Eq{eq(number(), number()), eq(arrow(number(), truth()), arrow(number(), truth()))}, nil},
		"'a = 'a":                {[]api.Eq{eq(v(0), v(0))}, []measured{{0, 1, 1}}},
		"'a = 'b":                {[]api.Eq{eq(v(0), v(1))}, []measured{{0, 1, 1}, {1, 1, 1}}},
		"the last variable":      {[]api.Eq{eq(v(greatest-1), truth())}, []measured{{greatest - 1, 1, 1}}},
		"int":                    {[]api.Eq{eq(v(0), number())}, []measured{{0, 1, 1}}},
		"int, told later":        {[]api.Eq{eq(v(0), v(1)), eq(v(2), v(1)), eq(v(2), number())}, []measured{{0, 1, 1}, {1, 1, 1}, {2, 1, 1}}},
		"an arrow":               {[]api.Eq{eq(v(0), arrow(v(1), number()))}, []measured{{0, 2, 3}, {1, 1, 1}}},
		"a variable twice":       {[]api.Eq{eq(v(0), arrow(v(1), v(1)))}, []measured{{0, 2, 3}, {1, 1, 1}}},
		"a tuple of eight":       {[]api.Eq{eq(v(0), tuple(many(8, v(1))...)), eq(v(1), tuple(number(), v(2)))}, []measured{{0, 3, 25}, {1, 2, 3}, {2, 1, 1}}},
		"of one below the other": {[]api.Eq{eq(v(0), arrow(v(1), v(2))), eq(v(1), arrow(v(2), v(3))), eq(v(2), arrow(v(3), v(3)))}, []measured{{0, 4, 9}, {1, 3, 5}, {2, 2, 3}, {3, 1, 1}}},
		"the deepest, first":     {[]api.Eq{eq(v(0), tuple(v(1), number(), truth())), eq(v(1), arrow(number(), arrow(truth(), number())))}, []measured{{0, 4, 8}, {1, 3, 5}}},
		"the deepest, amid":      {[]api.Eq{eq(v(0), tuple(number(), v(1), truth())), eq(v(1), arrow(number(), arrow(truth(), number())))}, []measured{{0, 4, 8}}},
		"of sides alone":         {[]api.Eq{eq(arrow(v(0), number()), arrow(arrow(truth(), v(1)), v(1)))}, []measured{{0, 2, 3}, {1, 1, 1}}},
		"two that look cyclic":   {[]api.Eq{eq(v(0), arrow(v(1), number())), eq(v(0), arrow(v(2), v(1)))}, []measured{{0, 2, 3}, {1, 1, 1}, {2, 1, 1}}},
		"of parts of both":       {[]api.Eq{eq(v(0), arrow(v(1), v(2))), eq(v(0), arrow(tuple(v(3), v(3)), arrow(v(3), v(3))))}, []measured{{0, 3, 7}, {1, 2, 3}, {2, 2, 3}, {3, 1, 1}}},
	}
}

// endlessOnes is equations whose classes aren't finite, with the variables that are cyclic.
func endlessOnes() map[string]struct {
	l    []api.Eq
	want []int
} {
	return map[string]struct {
		l    []api.Eq
		want []int
	}{
		"'a = 'a -> int":           {[]api.Eq{eq(v(0), arrow(v(0), number()))}, []int{0}},
		"as the last part":         {[]api.Eq{eq(v(0), arrow(number(), v(0)))}, []int{0}},
		"as a part amid":           {[]api.Eq{eq(v(0), tuple(number(), v(1), v(0), truth()))}, []int{0}},
		"deep down":                {[]api.Eq{eq(v(0), arrow(number(), arrow(tuple(truth(), v(0), v(1)), number())))}, []int{0}},
		"one alone behind it":      {[]api.Eq{eq(v(3), v(3)), eq(v(0), arrow(v(0), v(1)))}, []int{0}},
		"through several":          {[]api.Eq{eq(v(0), arrow(v(1), number())), eq(v(1), arrow(v(2), v(5))), eq(v(2), tuple(truth(), v(3))), eq(v(3), arrow(v(0), v(4)))}, []int{0, 1, 2, 3}},
		"the other way round":      {[]api.Eq{eq(v(3), arrow(number(), v(2))), eq(v(2), arrow(number(), v(1))), eq(v(1), arrow(number(), v(3)))}, []int{1, 2, 3}},
		"by variables of a class":  {[]api.Eq{eq(v(9), arrow(v(4), number())), eq(v(4), v(7)), eq(v(2), v(9)), eq(v(2), v(7))}, []int{2, 4, 7, 9}},
		"of sides alone":           {[]api.Eq{eq(arrow(v(0), v(1)), arrow(arrow(v(1), number()), v(0)))}, []int{0, 1}},
		"one that comes there":     {[]api.Eq{eq(v(5), tuple(number(), v(2))), eq(v(2), arrow(v(2), truth()))}, []int{2, 5}},
		"that comes there from on": {[]api.Eq{eq(v(0), arrow(v(1), number())), eq(v(1), tuple(truth(), v(2))), eq(v(2), arrow(number(), v(2)))}, []int{0, 1, 2}},
		"first an end, then there": {[]api.Eq{eq(v(0), tuple(v(4), arrow(number(), v(4)), v(1))), eq(v(1), arrow(v(1), v(4)))}, []int{0, 1}},
		"first there, then an end": {[]api.Eq{eq(v(0), tuple(v(1), v(4), v(5))), eq(v(4), arrow(v(5), v(5))), eq(v(1), arrow(v(1), v(4)))}, []int{0, 1}},
		"finite ones beside":       {[]api.Eq{eq(v(0), arrow(v(1), number())), eq(v(2), arrow(v(2), v(2))), eq(v(3), tuple(v(0), v(1))), eq(v(4), v(5))}, []int{2}},
		"finite ones on both":      {[]api.Eq{eq(v(0), arrow(v(1), v(1))), eq(v(4), tuple(v(2), v(0))), eq(v(2), arrow(v(0), v(2))), eq(v(6), arrow(v(0), v(1)))}, []int{2, 4}},
		"two that stand apart":     {[]api.Eq{eq(v(8), arrow(v(8), v(1))), eq(v(2), tuple(v(1), v(2))), eq(v(1), number())}, []int{2, 8}},
		"one way, two rounds":      {[]api.Eq{eq(v(0), arrow(v(1), v(2))), eq(v(1), arrow(v(0), v(3))), eq(v(2), arrow(v(3), v(0)))}, []int{0, 1, 2}},
		"a round behind a round":   {[]api.Eq{eq(v(0), arrow(v(0), v(1))), eq(v(1), arrow(number(), v(1)))}, []int{0, 1}},
		"a round beside a round":   {[]api.Eq{eq(v(0), arrow(v(1), v(2))), eq(v(1), arrow(v(1), number())), eq(v(2), tuple(v(2), v(3)))}, []int{0, 1, 2}},
		"a class without variable": {[]api.Eq{eq(v(0), arrow(tuple(v(1), arrow(v(0), number())), truth()))}, []int{0}},
		"by a tuple of eight":      {[]api.Eq{eq(v(1), tuple(many(8, v(0))...)), eq(v(0), arrow(v(2), v(1)))}, []int{0, 1}},
	}
}

// clashes is equations that clash.
func clashes() map[string][]api.Eq {
	return map[string][]api.Eq{
		"int and bool":              {eq(number(), truth())},
		"a variable's":              {eq(v(0), number()), eq(v(0), arrow(v(1), v(1)))},
		"behind an endless one":     {eq(v(0), arrow(v(0), number())), eq(v(1), number()), eq(v(1), truth())},
		"of an endless one":         {eq(v(0), arrow(v(0), number())), eq(v(0), number())},
		"with finite ones beside":   {eq(v(1), number()), eq(v(0), tuple(v(1), v(1))), eq(tuple(v(2), v(2)), tuple(v(2), v(2), v(2)))},
		"that stays, others behind": {eq(number(), truth()), eq(v(0), arrow(v(0), v(0))), eq(v(1), v(1))},
	}
}

// P13.1

func TestFiniteOnes(t *testing.T) {
	for name, c := range finiteOnes() {
		got := closure(c.l)
		wantFinite(t, name, got, len(classes(c.l).parts), true)
		if l := cycle.Cyclic(got); l != nil {
			t.Errorf("%s: Cyclic: %v", name, l)
		}
		for _, m := range c.want {
			wantMeasures(t, name, got, m.v, m.depth, m.size)
		}
		wantNothing(t, name, got, outside()...)
		hold(t, name, c.l)
	}
}

func TestSmallEquations(t *testing.T) {
	alone := []api.Type{v(0), v(1), number()}
	l := append(slices.Clone(alone), v(2), tuple(v(0), v(1), v(2)), arrow(v(2), v(0)), tuple(number(), v(2)))
	for _, a := range alone {
		for _, b := range alone {
			l = append(l, arrow(a, b))
		}
	}
	var eqs []api.Eq
	for i, a := range l {
		for _, b := range l[:i+1] {
			eqs = append(eqs, eq(a, b))
		}
	}
	for _, a := range eqs {
		hold(t, text([]api.Eq{a}), []api.Eq{a})
		for _, b := range eqs {
			hold(t, text([]api.Eq{a, b}), []api.Eq{a, b})
		}
	}
}

// chance gives types of a few variables, the same ones whenever the tests run.
type chance struct{ *rand.Rand }

func begin(n uint64) chance { return chance{rand.New(rand.NewPCG(n, 13))} }

func (c chance) typ(vars, depth int) api.Type {
	n := c.IntN(10)
	switch {
	case n < 4 || depth == 0:
		return v(c.IntN(vars))
	case n == 4:
		return number()
	case n < 8:
		return arrow(c.typ(vars, depth-1), c.typ(vars, depth-1))
	}
	parts := make([]api.Type, 2+c.IntN(2)*c.IntN(2))
	for i := range parts {
		parts[i] = c.typ(vars, depth-1)
	}
	return tuple(parts...)
}

func (c chance) eqs(n, vars, depth int) []api.Eq {
	var l []api.Eq
	for range n {
		// Variables on the left, so that few of them clash.
		l = append(l, eq(v(c.IntN(vars)), c.typ(vars, depth)))
	}
	return l
}

func TestRowsByChance(t *testing.T) {
	by := begin(1)
	clash, finite := 0, 0
	const rows = 6000
	for range rows {
		vars := 2 + by.IntN(12)
		l := by.eqs(1+by.IntN(vars), vars, 1+by.IntN(2))
		hold(t, text(l), l)
		c := closure(l)
		if c.Err() != api.OK {
			clash++
		} else if cycle.Finite(c) {
			finite++
		}
	}
	if endless := rows - clash - finite; min(clash, finite, endless) < rows/10 {
		t.Errorf("of %d rows %d clash, %d are finite", rows, clash, finite)
	}
}

// doubling is equations by which the variable i + 1 stands for an arrow from the variable i to that, up to n; 0 for int.
func doubling(n int) []api.Eq {
	l := []api.Eq{eq(v(0), number())}
	for i := range n {
		l = append(l, eq(v(i+1), arrow(v(i), v(i))))
	}
	return l
}

func TestGreatSizes(t *testing.T) {
	l := doubling(300)
	for i, x := range []api.Type{
		tuple(v(38), v(38)),
		tuple(v(38), v(38), number()),           // just 2^40
		tuple(v(38), v(38), number(), number()), // one more
		tuple(many(8, v(300))...),
		tuple(v(39), v(39)),
	} {
		l = append(l, eq(v(400+i), x))
	}
	c := closure(l)
	for i, want := range map[int]int{0: 1, 1: 3, 2: 7, 38: most/2 - 1, 39: most - 1, 40: most, 41: most, 63: most, 64: most, 300: most, 400: most - 1, 401: most, 402: most, 403: most, 404: most} {
		if n, ok := cycle.Size(c, i); n != want || !ok {
			t.Errorf("Size(%d): %d, %v, want %d", i, n, ok, want)
		}
	}
	for i, want := range map[int]int{0: 1, 1: 2, 40: 41, 63: 64, 300: 301, 400: 40, 403: 302} {
		if n, ok := cycle.Depth(c, i); n != want || !ok {
			t.Errorf("Depth(%d): %d, %v, want %d", i, n, ok, want)
		}
	}
	wantFinite(t, "doubling", c, 1000, true)
	if l := cycle.Cyclic(c); l != nil {
		t.Errorf("Cyclic: %v", l)
	}
	// One equation more, and there is no size any more, also of what doesn't hang on it.
	c.Equate(v(500), arrow(v(500), v(40)))
	wantNothing(t, "doubling, and an endless one", c, 0, 1, 40, 300, 400, 500)
	if l := cycle.Cyclic(c); !slices.Equal(l, []int{500}) {
		t.Errorf("Cyclic: %v", l)
	}
	// The greatest one stands in the least one: all are cyclic but those of which it doesn't.
	round := append(doubling(300)[1:], eq(v(0), tuple(v(300), v(301))))
	if l := cycle.Cyclic(closure(round)); len(l) != 301 || l[0] != 0 || l[300] != 300 {
		t.Errorf("Cyclic, in a round: %d", len(l))
	}
}

func TestClashes(t *testing.T) {
	for name, l := range clashes() {
		c := closure(l)
		if c.Err() != api.ErrClash {
			t.Fatalf("%s: doesn't clash", name)
		}
		wantFinite(t, name, c, 0, false)
		if l := cycle.Cyclic(c); l != nil {
			t.Errorf("%s: Cyclic: %v", name, l)
		}
		wantNothing(t, name, c, append(outside(), 0, 1, 2)...)
		hold(t, name, l)
	}
}

func TestNilClosure(t *testing.T) {
	wantFinite(t, "nil", nil, 0, false)
	if l := cycle.Cyclic(nil); l != nil {
		t.Errorf("Cyclic: %v", l)
	}
	wantNothing(t, "nil", nil, append(outside(), 0, 1)...)
}

// P13.2

func TestCyclic(t *testing.T) {
	for name, c := range endlessOnes() {
		got := closure(c.l)
		if l := cycle.Cyclic(got); !slices.Equal(l, c.want) {
			t.Errorf("%s: Cyclic: %v, want %v", name, l, c.want)
		}
		wantFinite(t, name, got, len(classes(c.l).parts), false)
		wantNothing(t, name, got, append(outside(), 0, 1, 2, 3, 4, 5, 6, 7, 8, 9)...)
		hold(t, name, c.l)
	}
}

// permute hands a list in all orders, its first ones staying, to a function.
func permute(l []api.Eq, first int, visit func(l []api.Eq)) {
	if first == len(l) {
		visit(l)
		return
	}
	for i := first; i < len(l); i++ {
		l[first], l[i] = l[i], l[first]
		permute(l, first+1, visit)
		l[first], l[i] = l[i], l[first]
	}
}

func TestOrderOfEquations(t *testing.T) {
	inAnyOrder := func(name string, l []api.Eq) {
		permute(slices.Clone(l), 0, func(order []api.Eq) {
			for about := range 1 << len(order) {
				turned := slices.Clone(order)
				for i, e := range turned {
					if about>>i&1 == 1 {
						turned[i] = eq(e.R, e.L)
					}
				}
				hold(t, name, turned)
			}
		})
	}
	for name, c := range endlessOnes() {
		inAnyOrder(name, c.l)
	}
	for name, c := range finiteOnes() {
		inAnyOrder(name, c.l)
	}
}

// What was asked ahead changes nothing: as equations come in, each answer is that of all that came so far.
func TestAskedBetweenEquations(t *testing.T) {
	by := begin(2)
	for range 300 {
		l := by.eqs(8, 9, 2)
		c := unify.New()
		for i, e := range l {
			c.Equate(e.L, e.R)
			alone := closure(l[:i+1])
			for a := range 9 {
				for range 2 {
					d, ok := cycle.Depth(c, a)
					if want, also := cycle.Depth(alone, a); d != want || ok != also {
						t.Fatalf("%s: Depth(%d): %d, %v, want %d, %v", text(l[:i+1]), a, d, ok, want, also)
					}
					n, ok := cycle.Size(c, a)
					if want, also := cycle.Size(alone, a); n != want || ok != also {
						t.Fatalf("%s: Size(%d): %d, %v, want %d, %v", text(l[:i+1]), a, n, ok, want, also)
					}
				}
			}
			if cycle.Finite(c) != cycle.Finite(alone) || !slices.Equal(cycle.Cyclic(c), cycle.Cyclic(alone)) {
				t.Fatalf("%s: Finite %v, Cyclic %v", text(l[:i+1]), cycle.Finite(c), cycle.Cyclic(c))
			}
			if c.Err() != alone.Err() || !slices.Equal(c.Vars(), alone.Vars()) {
				t.Fatalf("%s: Err %v, Vars %v", text(l[:i+1]), c.Err(), c.Vars())
			}
		}
	}
}

// workloads is many equations, with how many parts they have, and whether they are finite.
func workloads(n int) map[string]struct {
	l      []api.Eq
	parts  int
	finite bool
} {
	var chain, back, flat, wide, fan, alike, rounds []api.Eq
	for i := range n {
		chain = append(chain, eq(v(i), arrow(number(), v(i+1))))
		back = append(back, eq(v(n-i), arrow(v(n-i-1), number())))
		flat = append(flat, eq(v(i), v(i+1)))
		wide = append(wide, eq(v(i), tuple(many(8, v(i+1))...)))
		fan = append(fan, eq(v(0), arrow(v(i+1), v(i+2))))
		alike = append(alike, eq(v(i), arrow(tuple(many(8, number())...), v(n))))
		rounds = append(rounds, eq(v(i), arrow(v(i), v((i+1)%n))))
	}
	type load = struct {
		l      []api.Eq
		parts  int
		finite bool
	}
	return map[string]load{
		"a chain":               {chain, 3*n + 1, true},
		"a chain, backwards":    {back, 3*n + 1, true},
		"a chain that is round": {append(slices.Clone(chain), eq(v(n), arrow(v(0), v(0)))), 3*n + 2, false},
		"round, backwards":      {append(slices.Clone(back), eq(v(0), arrow(v(n), v(n)))), 3*n + 2, false},
		"round at its end":      {append(slices.Clone(chain), eq(v(n), arrow(v(n), v(n)))), 3*n + 2, false},
		"one class":             {flat, n + 1, true},
		"tuples of eight":       {wide, 2*n + 1, true},
		"tuples, round":         {append(slices.Clone(wide), eq(v(n), tuple(many(8, v(0))...))), 2*n + 2, false},
		"all of one":            {fan, 2*n + 2, true},
		"all alike":             {alike, 11*n + 1, true},
		"each in itself":        {rounds, 2 * n, false},
	}
}

func TestStepsWithinBound(t *testing.T) {
	for _, n := range []int{1, 2, 3, 10, 100, 1 << 16} {
		for name, c := range workloads(n) {
			got := closure(c.l)
			if n <= 10 && len(classes(c.l).parts) != c.parts {
				t.Fatalf("%d, %s: %d parts, want %d", n, name, len(classes(c.l).parts), c.parts)
			}
			wantFinite(t, name, got, c.parts, c.finite)
			if _, steps := cycle.Count(got); steps < 1 {
				t.Errorf("%d, %s: no steps", n, name)
			}
			if l := cycle.Cyclic(got); (len(l) == 0) != c.finite {
				t.Errorf("%d, %s: Cyclic: %d", n, name, len(l))
			}
		}
	}
}

func TestLongChains(t *testing.T) {
	const n = 1 << 16
	loads := workloads(n)
	wantMeasures(t, "a chain", closure(loads["a chain"].l), 0, n+1, 2*n+1)
	wantMeasures(t, "a chain, backwards", closure(loads["a chain, backwards"].l), n, n+1, 2*n+1)
	wantMeasures(t, "one class", closure(loads["one class"].l), n/2, 1, 1)
	wantMeasures(t, "tuples of eight", closure(loads["tuples of eight"].l), 0, n+1, most)
	wantMeasures(t, "all alike", closure(loads["all alike"].l), 0, 3, 11)
	var all []int
	for i := range n + 1 {
		all = append(all, i)
	}
	for _, name := range []string{"a chain that is round", "round, backwards", "round at its end", "tuples, round"} {
		if l := cycle.Cyclic(closure(loads[name].l)); !slices.Equal(l, all) {
			t.Errorf("%s: Cyclic: %d", name, len(l))
		}
	}
}

func TestDeepTypes(t *testing.T) {
	defer debug.SetMaxStack(debug.SetMaxStack(1 << 20))
	left, right := v(0), v(1)
	for range deep {
		left, right = arrow(left, number()), arrow(truth(), right)
	}
	c := closure([]api.Eq{eq(v(2), left), eq(v(3), right), eq(v(0), v(1))})
	wantFinite(t, "deep", c, 4*deep+3, true)
	wantMeasures(t, "deep", c, 2, deep+1, 2*deep+1)
	wantMeasures(t, "deep", c, 3, deep+1, 2*deep+1)
	c.Equate(v(0), v(2))
	wantFinite(t, "deep, round", c, 4*deep+3, false)
	if l := cycle.Cyclic(c); !slices.Equal(l, []int{0, 1, 2, 3}) {
		t.Errorf("Cyclic: %v", l)
	}
}

// The same calls in the same order have the same steps.
func TestSameCallsAnswerTheSame(t *testing.T) {
	do := func() []int {
		by := begin(3)
		var told []int
		for range 300 {
			_, steps := cycle.Count(closure(by.eqs(8, 8, 2)))
			told = append(told, steps)
		}
		return told
	}
	if !slices.Equal(do(), do()) {
		t.Error("two answers are unlike")
	}
}

// rule 4

func TestNothingIsShared(t *testing.T) {
	c := closure([]api.Eq{eq(v(4), arrow(v(4), v(2))), eq(v(1), arrow(v(4), v(1))), eq(v(3), number())})
	for range 3 {
		l := cycle.Cyclic(c)
		if !slices.Equal(l, []int{1, 4}) {
			t.Fatalf("Cyclic: %v", l)
		}
		for i := range l[:cap(l)] {
			l[:cap(l)][i] = 77
		}
	}
	if !slices.Equal(c.Vars(), []int{1, 2, 3, 4}) {
		t.Errorf("Vars: %v", c.Vars())
	}
}

func TestExampleOfTheDocument(t *testing.T) {
	c := closure([]api.Eq{eq(v(0), arrow(v(0), number()))})
	if cycle.Finite(c) || !slices.Equal(cycle.Cyclic(c), []int{0}) {
		t.Errorf("Finite %v, Cyclic %v", cycle.Finite(c), cycle.Cyclic(c))
	}
}
