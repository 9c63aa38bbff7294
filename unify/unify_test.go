package unify_test

import (
	"math"
	"math/bits"
	"math/rand/v2"
	"runtime/debug"
	"slices"
	"testing"

	"pangram/api"
	"pangram/types"
	"pangram/unify"
)

const deep = 1 << 17 // levels: calls within calls as deep would take more than the stack that TestDeepTypes gives

const greatest = 1<<30 - 1 // the last variable

func typ(kind, n int, parts ...api.Type) api.Type {
	return api.Type{Kind: kind, N: n, Parts: parts}
}

func v(n int) api.Type { return typ(api.TVar, n) }

func arrow(a, b api.Type) api.Type { return typ(api.TArrow, 0, a, b) }

func tuple(parts ...api.Type) api.Type { return typ(api.TTuple, 0, parts...) }

func truth() api.Type { return typ(api.TBool, 0) }

func number() api.Type { return typ(api.TInt, 0) }

func many(n int, t api.Type) []api.Type { return slices.Repeat([]api.Type{t}, n) }

func eq(l, r api.Type) api.Eq { return api.Eq{L: l, R: r, At: api.Span{From: 3, To: 4}} }

// wrongTypes is types that aren't right, by what is wrong with them.
func wrongTypes() map[string]api.Type {
	return map[string]api.Type{
		"the zero one":                 {},
		"a kind above 5":               typ(6, 0),
		"a variable below 0":           v(-1),
		"a variable of 2^30":           v(1 << 30),
		"a variable with a part":       typ(api.TVar, 0, v(77)),
		"int with a number":            typ(api.TInt, 1),
		"int with a part":              typ(api.TInt, 0, v(77)),
		"an arrow of one part":         typ(api.TArrow, 0, v(77)),
		"a tuple of one part":          tuple(v(77)),
		"a tuple of nine parts":        tuple(many(9, v(77))...),
		"a wrong part behind others":   tuple(v(77), arrow(v(0), number()), v(-1)),
		"a wrong part, further inside": arrow(v(77), tuple(truth(), arrow(tuple(v(78)), truth()))),
	}
}

// outside is numbers that are no variable of the equations here.
func outside() []int {
	return []int{-1, 77, greatest, greatest + 1, math.MinInt, math.MaxInt}
}

// second is the classes of equations, worked out a second way: parts with labels, those of one class the same, changed till nothing is left to be changed.
type second struct {
	parts []part
	label []int
	sides [][2]int // the parts that are the sides of the equations
	clash bool
}

// part is a part of equations.
type part struct {
	kind, n int
	parts   []int
}

// add gives the part that a type is.
func (s *second) add(t api.Type) int {
	p := part{kind: t.Kind, n: t.N}
	for _, x := range t.Parts {
		p.parts = append(p.parts, s.add(x))
	}
	for i, x := range s.parts {
		if p.kind == api.TVar && x.kind == api.TVar && x.n == p.n {
			return i
		}
	}
	s.parts, s.label = append(s.parts, p), append(s.label, len(s.parts))
	return len(s.parts) - 1
}

// join makes two labels one, and tells whether they were two.
func (s *second) join(a, b int) bool {
	from, to := s.label[a], s.label[b]
	for i := range s.label {
		if s.label[i] == from {
			s.label[i] = to
		}
	}
	return from != to
}

// round goes through all pairs of parts once, and tells whether labels were changed.
func (s *second) round() bool {
	changed := false
	for i, a := range s.parts {
		for j, b := range s.parts[:i] {
			if s.label[i] != s.label[j] || a.kind == api.TVar || b.kind == api.TVar {
				continue
			}
			if a.kind != b.kind || len(a.parts) != len(b.parts) {
				s.clash = true
				continue
			}
			for k := range a.parts {
				changed = s.join(a.parts[k], b.parts[k]) || changed
			}
		}
	}
	return changed
}

func classes(l []api.Eq) *second {
	s := &second{}
	for _, e := range l {
		left := s.add(e.L)
		s.join(left, s.add(e.R))
	}
	for s.round() {
	}
	return s
}

// vars is the variables of a class, rising; of all for the label -1.
func (s *second) vars(label int) []int {
	var l []int
	for i, p := range s.parts {
		if p.kind == api.TVar && (label < 0 || s.label[i] == label) {
			l = append(l, p.n)
		}
	}
	slices.Sort(l)
	return l
}

// made is a part of a class that is no variable, or the zero one.
func (s *second) made(label int) part {
	for i, p := range s.parts {
		if p.kind != api.TVar && s.label[i] == label {
			return p
		}
	}
	return part{}
}

// of is the label of a variable.
func (s *second) of(v int) int {
	for i, p := range s.parts {
		if p.kind == api.TVar && p.n == v {
			return s.label[i]
		}
	}
	return -1
}

// holder holds what a closure tells against a second one.
type holder struct {
	t      *testing.T
	what   any
	want   *second
	labels map[int]int // by Ids
	ids    map[int]int // by labels
}

// part holds a part that is of a class, and all that one comes to from it.
func (h holder) part(p unify.Part, label int) {
	h.t.Helper()
	if _, seen := h.ids[label]; !seen {
		if other, seen := h.labels[p.Id()]; seen || p.Id() < 0 {
			h.t.Fatalf("%v: the Id %d is that of %d and of %d", h.what, p.Id(), label, other)
		}
		h.ids[label], h.labels[p.Id()] = p.Id(), label
		parts := p.Parts()
		made := h.want.made(label)
		if len(parts) != len(made.parts) {
			h.t.Fatalf("%v: %d Parts, want %d", h.what, len(parts), len(made.parts))
		}
		for i, x := range parts {
			h.part(x, h.want.label[made.parts[i]])
		}
	}
	least := -1
	if vars := h.want.vars(label); len(vars) > 0 {
		least = vars[0]
	}
	if p.Id() != h.ids[label] || p.Kind() != h.want.made(label).kind || p.Var() != least {
		h.t.Fatalf("%v: Id %d, Kind %d, Var %d, want %d, %d, %d", h.what, p.Id(), p.Kind(), p.Var(), h.ids[label], h.want.made(label).kind, least)
	}
}

// variable holds what is told of a variable's class.
func (h holder) variable(c *unify.Closure, v int) {
	h.t.Helper()
	label := h.want.of(v)
	made := h.want.made(label)
	if got := c.Class(v); !slices.Equal(got, h.want.vars(label)) {
		h.t.Fatalf("%v: Class(%d): %v, want %v", h.what, v, got, h.want.vars(label))
	}
	if got := c.Kind(v); got != made.kind {
		h.t.Fatalf("%v: Kind(%d): %d, want %d", h.what, v, got, made.kind)
	}
	p, ok := c.Part(v)
	if !ok {
		h.t.Fatalf("%v: no Part(%d)", h.what, v)
	}
	h.part(p, label)
	parts, ok := c.Parts(v)
	if ok != (made.kind != 0) || len(parts) != len(made.parts) {
		h.t.Fatalf("%v: Parts(%d): %d, %v", h.what, v, len(parts), ok)
	}
	for i, x := range parts {
		h.part(x, h.want.label[made.parts[i]])
	}
}

// wantNothing wants what is told without a part.
func wantNothing(t *testing.T, what any, c *unify.Closure, v int) {
	t.Helper()
	if l := c.Class(v); len(l) != 0 {
		t.Fatalf("%v: Class(%d): %v", what, v, l)
	}
	if k := c.Kind(v); k != 0 {
		t.Fatalf("%v: Kind(%d): %d", what, v, k)
	}
	if p, ok := c.Part(v); p != (unify.Part{}) || ok {
		t.Fatalf("%v: Part(%d): %v, %v", what, v, p, ok)
	}
	if parts, ok := c.Parts(v); len(parts) != 0 || ok {
		t.Fatalf("%v: Parts(%d): %d, %v", what, v, len(parts), ok)
	}
	if c.Same(v, v) {
		t.Fatalf("%v: Same(%d, %d)", what, v, v)
	}
}

// hold holds all that a closure tells, but for its steps, against what comes of equations a second way.
func hold(t *testing.T, what any, c *unify.Closure, l []api.Eq) {
	t.Helper()
	want := classes(l)
	if want.clash {
		if e := c.Err(); e != api.ErrClash || len(c.Vars()) != 0 {
			t.Fatalf("%v: Err %v, Vars %v", what, e, c.Vars())
		}
		for _, a := range append(outside(), want.vars(-1)...) {
			wantNothing(t, what, c, a)
		}
		return
	}
	vars := want.vars(-1)
	if e := c.Err(); e != api.OK || !slices.Equal(c.Vars(), vars) {
		t.Fatalf("%v: Err %v, Vars %v, want %v", what, e, c.Vars(), vars)
	}
	h := holder{t: t, what: what, want: want, labels: map[int]int{}, ids: map[int]int{}}
	for _, a := range vars {
		h.variable(c, a)
		for _, b := range vars {
			if got := c.Same(a, b); got != (want.of(a) == want.of(b)) {
				t.Fatalf("%v: Same(%d, %d): %v", what, a, b, got)
			}
		}
	}
}

// equated lets equations come in, one by one, and wants what is told of each.
func equated(t *testing.T, what any, l []api.Eq) *unify.Closure {
	t.Helper()
	c := unify.New()
	for i, e := range l {
		want := api.OK
		if classes(l[:i+1]).clash {
			want = api.ErrClash
		}
		if got := c.Equate(e.L, e.R); got != want || c.Err() != want {
			t.Fatalf("%v: equation %d: %v, Err %v, want %v", what, i, got, c.Err(), want)
		}
	}
	return c
}

// smallTypes is types of at most two levels.
func smallTypes() []api.Type {
	alone := []api.Type{v(0), v(1), number()}
	l := append(slices.Clone(alone), truth(), tuple(v(0), v(1), number()))
	for _, a := range alone {
		for _, b := range alone {
			l = append(l, arrow(a, b))
		}
	}
	return append(l, tuple(v(0), v(1)), tuple(number(), v(2)), arrow(v(2), v(0)))
}

func smallEqs() []api.Eq {
	var l []api.Eq
	for i, a := range smallTypes() {
		for _, b := range smallTypes()[:i+1] {
			l = append(l, eq(a, b))
		}
	}
	return l
}

// text is equations as a text, so that a test tells which ones fail.
func text(l []api.Eq) string {
	s := ""
	for _, e := range l {
		s += types.Print(e.L) + " = " + types.Print(e.R) + "; "
	}
	return s
}

// chance gives types of a few variables, the same ones whenever the tests run.
type chance struct{ *rand.Rand }

func begin(n uint64) chance { return chance{rand.New(rand.NewPCG(n, 12))} }

func (c chance) typ(vars, depth int) api.Type {
	n := c.IntN(10)
	switch {
	case n < 4 || depth == 0:
		return v(c.IntN(vars))
	case n == 4:
		return number()
	case n == 5 && c.IntN(4) == 0:
		return truth()
	case n < 8:
		return arrow(c.typ(vars, depth-1), c.typ(vars, depth-1))
	}
	parts := make([]api.Type, 2+c.IntN(2)*c.IntN(2))
	for i := range parts {
		parts[i] = c.typ(vars, depth-1)
	}
	return tuple(parts...)
}

func (c chance) eqs(n, vars, depth int) []api.Eq {
	var l []api.Eq
	for range n {
		l = append(l, eq(c.typ(vars, depth), c.typ(vars, depth)))
	}
	return l
}

// P12.1

func TestNew(t *testing.T) {
	c, other := unify.New(), unify.New()
	if c == nil || other == nil || c == other {
		t.Fatal("New gives no closure of its own")
	}
	if e := other.Equate(v(0), v(1)); e != api.OK {
		t.Fatalf("Equate: %v", e)
	}
	hold(t, "a new one", c, nil)
	if c.Steps() != 0 {
		t.Errorf("Steps: %d", c.Steps())
	}
	for _, a := range append(outside(), 0, 1) {
		wantNothing(t, "a new one", c, a)
	}
}

// All rows of one and of two equations of small types, and many of three.
func TestAllShortRows(t *testing.T) {
	all := smallEqs()
	for i, a := range all {
		hold(t, text([]api.Eq{a}), equated(t, i, []api.Eq{a}), []api.Eq{a})
		for j, b := range all {
			l := []api.Eq{a, b}
			hold(t, text(l), equated(t, text(l), l), l)
			if (i+j)%3 == 0 {
				l = append(l, all[(i*7+j*5)%len(all)])
				hold(t, text(l), equated(t, text(l), l), l)
			}
		}
	}
}

func TestRowsByChance(t *testing.T) {
	c := begin(1)
	clashing := 0
	const rows = 6000
	for range rows {
		l := c.eqs(1+c.IntN(9), 1+c.IntN(12), 1+c.IntN(3))
		got := equated(t, text(l), l)
		hold(t, text(l), got, l)
		if got.Err() != api.OK {
			clashing++
		}
	}
	if clashing < rows/10 || clashing > rows*9/10 {
		t.Errorf("of %d rows %d clash", rows, clashing)
	}
}

func TestEquateTypesThatArentRight(t *testing.T) {
	ahead := []api.Eq{eq(v(0), arrow(v(1), v(2))), eq(v(3), v(1))}
	for name, wrong := range wrongTypes() {
		for _, n := range []int{0, 1, 2} {
			c := equated(t, name, ahead[:n])
			for _, e := range []api.Eq{eq(wrong, v(50)), eq(v(50), wrong), eq(wrong, wrong), eq(arrow(v(0), v(51)), wrong), eq(number(), wrong), eq(wrong, number())} {
				steps := c.Steps()
				if got := c.Equate(e.L, e.R); got != api.ErrArg || c.Err() != api.OK || c.Steps() != steps {
					t.Fatalf("%s: %v, Err %v", name, got, c.Err())
				}
				hold(t, name, c, ahead[:n])
			}
			// What comes behind is as without them; what clashes there comes first from then on.
			clash := append(slices.Clone(ahead[:n]), eq(v(0), number()), eq(v(50), v(51)), eq(v(0), truth()))
			for _, e := range clash[n:] {
				c.Equate(e.L, e.R)
			}
			hold(t, name, c, clash)
			for _, e := range []api.Eq{eq(wrong, v(0)), eq(v(0), wrong), eq(wrong, wrong)} {
				if got := c.Equate(e.L, e.R); got != api.ErrClash {
					t.Fatalf("%s behind a clash: %v", name, got)
				}
			}
			hold(t, name, c, clash)
		}
	}
}

// What clashes, by how it does so; the last equation is the one with which it does.
func clashes() map[string][]api.Eq {
	inside := func(t api.Type) api.Type { return arrow(v(9), tuple(number(), arrow(t, truth()))) }
	return map[string][]api.Eq{
		"int and bool":                 {eq(number(), truth())},
		"int and an arrow":             {eq(number(), arrow(v(0), v(0)))},
		"an arrow and a pair":          {eq(arrow(v(0), v(1)), tuple(v(0), v(1)))},
		"a pair and three":             {eq(tuple(v(0), v(1)), tuple(v(0), v(1), v(2)))},
		"eight and seven":              {eq(tuple(many(8, v(0))...), tuple(many(7, v(0))...))},
		"by first parts":               {eq(arrow(number(), v(0)), arrow(truth(), v(0)))},
		"by last parts":                {eq(tuple(v(0), v(1), number()), tuple(v(0), v(1), truth()))},
		"deep down":                    {eq(inside(number()), inside(truth()))},
		"deep down, unlike many parts": {eq(inside(tuple(v(0), v(1))), inside(tuple(v(0), v(1), v(2))))},
		"by a variable that is twice":  {eq(arrow(v(0), v(0)), arrow(number(), truth()))},
		"by a class of two equations":  {eq(v(0), number()), eq(v(1), truth()), eq(v(0), v(1))},
		"by parts of a class":          {eq(v(0), arrow(v(1), v(2))), eq(v(2), truth()), eq(v(0), arrow(v(3), v(4))), eq(v(4), number())},
		"by parts of a variable":       {eq(v(0), arrow(number(), v(1))), eq(v(0), arrow(v(2), truth())), eq(v(1), v(2))},
		"far round":                    {eq(v(0), v(1)), eq(v(2), v(3)), eq(v(0), number()), eq(v(3), arrow(v(0), v(0))), eq(v(1), v(2))},
		"what is in itself":            {eq(v(0), arrow(v(0), v(0))), eq(v(0), arrow(v(1), v(2))), eq(v(2), number())},
		"in itself, two ways":          {eq(v(0), arrow(v(0), v(1))), eq(v(1), tuple(v(0), v(1))), eq(v(1), v(0))},
	}
}

func TestClashesStay(t *testing.T) {
	for name, l := range clashes() {
		c := equated(t, name, l)
		last := len(l) - 1
		if n, e := unify.First(l...); n != last || e != api.ErrClash {
			t.Errorf("%s: First: %d, %v", name, n, e)
		}
		if n, e := unify.First(l[:last]...); n != 0 || e != api.OK {
			t.Errorf("%s: First without the last one: %d, %v", name, n, e)
		}
		hold(t, name, c, l)
		steps := c.Steps()
		for _, e := range []api.Eq{eq(number(), number()), eq(v(0), v(0)), eq(v(30), v(31)), eq(v(-1), v(0)), eq(number(), truth())} {
			if got := c.Equate(e.L, e.R); got != api.ErrClash || c.Err() != api.ErrClash {
				t.Errorf("%s: behind it: %v, Err %v", name, got, c.Err())
			}
		}
		hold(t, name, c, append(l, eq(v(30), v(31))))
		if c.Steps() < steps {
			t.Errorf("%s: Steps fall from %d to %d", name, steps, c.Steps())
		}
	}
}

func TestFirst(t *testing.T) {
	ok := []api.Eq{eq(v(0), v(1)), eq(v(1), number()), eq(arrow(v(2), v(0)), v(3))}
	clash, wrong := eq(v(0), truth()), eq(v(5), tuple(v(5)))
	for name, c := range map[string]struct {
		l []api.Eq
		n int
		e api.Errno
	}{
		"of none":                       {nil, 0, api.OK},
		"of one":                        {ok[:1], 0, api.OK},
		"of some that don't clash":      {ok, 0, api.OK},
		"the first one clashes":         {[]api.Eq{eq(number(), truth()), ok[0]}, 0, api.ErrClash},
		"the first one isn't right":     {[]api.Eq{wrong, clash}, 0, api.ErrArg},
		"behind others":                 {append(slices.Clone(ok), clash), 3, api.ErrClash},
		"a wrong one behind others":     {append(slices.Clone(ok), wrong), 3, api.ErrArg},
		"a wrong one ahead of a clash":  {append(slices.Clone(ok), wrong, clash), 3, api.ErrArg},
		"a wrong one behind a clash":    {append(slices.Clone(ok), clash, wrong), 3, api.ErrClash},
		"a clash with others behind":    {append(slices.Clone(ok), clash, ok[0], ok[1]), 3, api.ErrClash},
		"a clash of the first and last": {append(slices.Clone(ok), eq(v(6), v(7)), eq(v(1), v(6)), eq(v(7), arrow(v(8), v(9)))), 5, api.ErrClash},
		"wrong on the left":             {[]api.Eq{ok[0], eq(v(-1), v(0))}, 1, api.ErrArg},
		"the zero one":                  {[]api.Eq{{}}, 0, api.ErrArg},
	} {
		if n, e := unify.First(c.l...); n != c.n || e != c.e {
			t.Errorf("%s: %d, %v, want %d, %v", name, n, e, c.n, c.e)
		}
	}
	// What the equations are charged with doesn't matter.
	if n, e := unify.First(api.Eq{L: v(0), R: v(1), At: api.Span{From: -3, To: -9}}); n != 0 || e != api.OK {
		t.Errorf("a span that isn't right: %d, %v", n, e)
	}
	many := slices.Repeat(ok, 3000)
	if n, e := unify.First(append(many, clash, wrong)...); n != len(many) || e != api.ErrClash {
		t.Errorf("behind very many: %d, %v", n, e)
	}
}

// P12.2

func TestEquationsWithoutAnEnd(t *testing.T) {
	for name, l := range map[string][]api.Eq{
		"an arrow of itself":      {eq(v(0), arrow(v(0), v(0)))},
		"twice":                   {eq(v(0), arrow(v(0), v(0))), eq(v(0), arrow(v(0), arrow(v(0), v(0))))},
		"two of one another":      {eq(v(0), arrow(v(1), number())), eq(v(1), tuple(v(0), v(1)))},
		"two alike, joined":       {eq(v(0), arrow(number(), v(0))), eq(v(1), arrow(number(), v(1))), eq(v(0), v(1))},
		"unlike long ways round":  {eq(v(0), arrow(v(2), arrow(v(3), v(0)))), eq(v(1), arrow(v(4), arrow(v(5), arrow(v(6), v(1))))), eq(v(0), v(1))},
		"with a side of a side":   {eq(arrow(v(0), v(1)), arrow(arrow(v(0), v(1)), v(0)))},
		"a variable and its part": {eq(v(0), tuple(v(1), v(2), v(3))), eq(v(3), v(0)), eq(v(1), v(2))},
	} {
		hold(t, name, equated(t, name, l), l)
	}
	c := equated(t, "'a = 'a -> 'a", []api.Eq{eq(v(0), arrow(v(0), v(0)))})
	p, _ := c.Part(0)
	for i := range 1000 {
		parts := p.Parts()
		if len(parts) != 2 || parts[0] != p || p.Kind() != api.TArrow || p.Var() != 0 {
			t.Fatalf("level %d: %d parts", i, len(parts))
		}
		p = parts[i%2]
	}
}

func TestClassRises(t *testing.T) {
	const n = 1000
	c := unify.New()
	// 7 has no divisor in common with 1000, so that each is come to.
	for i := range n {
		c.Equate(v(i*7%n), v((i+2)*7%n))
	}
	c.Equate(arrow(v(1), v(2)), arrow(arrow(v(n), v(n)), number()))
	var all, even, odd []int
	for i := range n {
		all = append(all, i)
		if i%2 == 0 {
			even = append(even, i)
		} else {
			odd = append(odd, i)
		}
	}
	for _, a := range []int{0, 1, 2, 499, 500, 998, 999} {
		if want := [][]int{even, odd}[a%2]; !slices.Equal(c.Class(a), want) {
			t.Errorf("Class(%d): %v", a, c.Class(a))
		}
		p, _ := c.Part(a)
		if want := []int{api.TInt, api.TArrow}[a%2]; c.Kind(a) != want || p.Kind() != want || p.Var() != a%2 {
			t.Errorf("Kind(%d): %d, Var %d", a, c.Kind(a), p.Var())
		}
	}
	if got := c.Vars(); !slices.Equal(got, append(all, n)) {
		t.Errorf("Vars: %v", got)
	}
	if c.Same(0, 1) || !c.Same(0, 998) || !c.Same(1, 999) || c.Same(0, n) || !c.Same(n, n) {
		t.Error("Same")
	}
}

func TestOfNoPart(t *testing.T) {
	c := equated(t, "some", []api.Eq{eq(v(0), arrow(v(1), v(2))), eq(v(3), number())})
	for _, a := range append(outside(), 4, 5) {
		wantNothing(t, "some", c, a)
		for _, b := range []int{0, 1, 3, a} {
			if c.Same(a, b) || c.Same(b, a) {
				t.Errorf("Same(%d, %d)", a, b)
			}
		}
	}
}

func TestPartOfOneAlone(t *testing.T) {
	c := equated(t, "alone", []api.Eq{eq(arrow(v(4), v(6)), arrow(v(4), v(7))), eq(v(9), v(9))})
	for _, n := range []int{4, 9} {
		p, ok := c.Part(n)
		if !ok || p.Kind() != 0 || p.Var() != n || p.Id() < 0 || len(p.Parts()) != 0 {
			t.Errorf("Part(%d): %v, Kind %d, Var %d, Id %d", n, ok, p.Kind(), p.Var(), p.Id())
		}
		if parts, ok := c.Parts(n); parts != nil || ok {
			t.Errorf("Parts(%d): %v, %v", n, parts, ok)
		}
		if c.Kind(n) != 0 || !slices.Equal(c.Class(n), []int{n}) {
			t.Errorf("Kind(%d) %d, Class %v", n, c.Kind(n), c.Class(n))
		}
	}
	p, _ := c.Part(7)
	if q, _ := c.Part(6); p.Var() != 6 || q.Var() != 6 || p.Id() != q.Id() || p.Kind() != 0 {
		t.Errorf("of two variables: Var %d, %d, Id %d, %d", p.Var(), q.Var(), p.Id(), q.Id())
	}
}

func TestPartWithParts(t *testing.T) {
	c := equated(t, "parts", []api.Eq{
		eq(v(3), tuple(number(), v(1), arrow(v(3), truth()), v(5))),
		eq(v(5), v(2)),
		eq(v(4), number()),
	})
	parts, ok := c.Parts(3)
	if !ok || len(parts) != 4 {
		t.Fatalf("Parts: %d, %v", len(parts), ok)
	}
	whole, _ := c.Part(3)
	one, _ := c.Part(1)
	two, _ := c.Part(2)
	for i, want := range []struct{ kind, least, parts int }{{api.TInt, -1, 0}, {0, 1, 0}, {api.TArrow, -1, 2}, {0, 2, 0}} {
		if p := parts[i]; p.Kind() != want.kind || p.Var() != want.least || len(p.Parts()) != want.parts || p.Id() < 0 {
			t.Errorf("part %d: Kind %d, Var %d, Id %d, %d Parts", i, p.Kind(), p.Var(), p.Id(), len(p.Parts()))
		}
	}
	if parts[1].Id() != one.Id() || parts[3].Id() != two.Id() || parts[2].Parts()[0].Id() != whole.Id() {
		t.Error("Ids of one class are unlike")
	}
	ids := map[int]bool{whole.Id(): true, parts[2].Parts()[1].Id(): true}
	for _, p := range parts {
		ids[p.Id()] = true
	}
	if four, _ := c.Part(4); ids[four.Id()] || len(ids) != 6 {
		t.Errorf("Ids of unlike classes: %v, %d", ids, four.Id())
	}
	// Of a class of int there are parts, but none.
	if parts, ok := c.Parts(4); len(parts) != 0 || !ok {
		t.Errorf("Parts of int: %v, %v", parts, ok)
	}
}

// Asked once more, all is as it was: also behind an equation that isn't right.
func TestPartsHold(t *testing.T) {
	c := equated(t, "parts", []api.Eq{eq(v(0), arrow(v(1), number())), eq(v(2), v(0)), eq(v(3), tuple(v(0), v(3)))})
	p, _ := c.Part(3)
	ids := func() []int {
		l := []int{p.Id(), p.Kind(), p.Var()}
		for _, x := range p.Parts() {
			l = append(l, x.Id(), x.Kind(), x.Var())
			for _, y := range x.Parts() {
				l = append(l, y.Id(), y.Kind(), y.Var())
			}
		}
		return l
	}
	want := ids()
	for range 3 {
		if e := c.Equate(v(0), v(-1)); e != api.ErrArg {
			t.Fatal(e)
		}
		for a := range 5 {
			c.Class(a)
			c.Same(a, 0)
			c.Parts(a)
		}
		if got := ids(); !slices.Equal(got, want) {
			t.Errorf("%v, want %v", got, want)
		}
	}
}

func TestZeroPart(t *testing.T) {
	var p unify.Part
	if p.Id() != -1 || p.Kind() != 0 || p.Var() != -1 || p.Parts() != nil {
		t.Errorf("Id %d, Kind %d, Var %d, Parts %v", p.Id(), p.Kind(), p.Var(), p.Parts())
	}
}

// Nothing is promised of a part that doesn't hold any more, but that its calls end.
func TestPartsThatDontHold(t *testing.T) {
	c := equated(t, "parts", []api.Eq{eq(v(0), arrow(v(1), number()))})
	p, _ := c.Part(0)
	parts := p.Parts()
	for _, e := range []api.Eq{eq(v(5), v(6)), eq(v(0), v(5)), eq(v(1), v(2)), eq(v(0), truth())} {
		c.Equate(e.L, e.R)
		for _, x := range append(parts, p) {
			x.Id()
			x.Kind()
			x.Var()
			x.Parts()
		}
	}
	if c.Err() != api.ErrClash {
		t.Error("they don't clash")
	}
}

func TestNilClosure(t *testing.T) {
	var c *unify.Closure
	for name, e := range map[string]api.Eq{"variables": eq(v(0), v(1)), "types that clash": eq(number(), truth()), "the zero types": {}, "wrong types": eq(v(-1), v(0))} {
		if got := c.Equate(e.L, e.R); got != api.ErrState {
			t.Errorf("Equate of %s: %v", name, got)
		}
	}
	for _, a := range append(outside(), 0, 1) {
		wantNothing(t, "nil", c, a)
	}
	if c.Err() != api.ErrState || c.Vars() != nil || c.Steps() != 0 || c.Same(0, 1) {
		t.Errorf("Err %v, Vars %v, Steps %d", c.Err(), c.Vars(), c.Steps())
	}
}

// P12.3

// counter lets equations come in, and holds the steps behind each against the bound.
type counter struct {
	t    *testing.T
	c    *unify.Closure
	size int // of all sides
	last int
}

func count(t *testing.T) *counter { return &counter{t: t, c: unify.New()} }

func (c *counter) check() {
	c.t.Helper()
	steps := c.c.Steps()
	if bound := 40 * (c.size + 1) * (bits.Len(uint(c.size+1)) + 2); steps < c.last || steps > bound {
		c.t.Fatalf("%d steps of the size %d, ahead %d, bound %d", steps, c.size, c.last, bound)
	}
	c.last = steps
}

func (c *counter) equate(l, r api.Type) {
	c.t.Helper()
	ahead := c.c.Err()
	// What isn't right, or comes behind a clash, isn't equated.
	if e := c.c.Equate(l, r); e != api.ErrArg && ahead == api.OK {
		c.size += types.Size(l) + types.Size(r)
	}
	c.check()
}

// workloads is many equations, by how they come.
func workloads(n int) map[string]func(c *counter) {
	wide := func(first int) api.Type {
		t := tuple(many(8, v(0))...)
		for i := range t.Parts {
			t.Parts[i] = v(first + i)
		}
		return t
	}
	return map[string]func(c *counter){
		"a chain": func(c *counter) {
			for i := range n {
				c.equate(v(i), v(i+1))
			}
		},
		"a chain, backwards": func(c *counter) {
			for i := range n {
				c.equate(v(n-i), v(n-i-1))
			}
		},
		"all to one": func(c *counter) {
			for i := range n {
				c.equate(v(i), v(n/2))
			}
		},
		"by halves": func(c *counter) {
			for width := 1; width < n; width *= 2 {
				for i := 0; i+width < n; i += 2 * width {
					c.equate(v(i+width-1), v(i+2*width-1))
				}
			}
		},
		"arrows of the next, and all made one": func(c *counter) {
			for i := range n {
				c.equate(v(2*i), arrow(v(2*i+2), v(2*i+2)))
				c.equate(v(2*i+1), arrow(v(2*i+3), v(2*i+3)))
			}
			c.equate(v(0), v(1))
		},
		"one equation again and again": func(c *counter) {
			for range n {
				c.equate(v(0), arrow(v(0), tuple(v(1), v(0), number())))
			}
		},
		"without an end, of unlike lengths": func(c *counter) {
			for i := range n {
				c.equate(v(i), arrow(number(), v((i+1)%n)))
			}
			c.equate(v(0), v(1))
		},
		"tuples": func(c *counter) {
			for i := range n {
				c.equate(wide(i), wide(i+8))
			}
		},
		"what isn't right": func(c *counter) {
			for i := range n {
				c.equate(v(i), tuple(v(i)))
				c.equate(v(-1), wide(i))
			}
		},
		"behind a clash": func(c *counter) {
			c.equate(number(), truth())
			for i := range n {
				c.equate(v(i), wide(i))
			}
		},
	}
}

func TestStepsWithinBound(t *testing.T) {
	for _, n := range []int{1, 2, 3, 10, 100, 1 << 14} {
		for name, work := range workloads(n) {
			c := count(t)
			c.check()
			work(c)
			if c.c.Steps() == 0 && c.size > 0 {
				t.Errorf("%d, %s: no steps", n, name)
			}
		}
	}
}

func TestStepsByChance(t *testing.T) {
	by := begin(2)
	for range 3000 {
		c := count(t)
		for _, e := range by.eqs(1+by.IntN(40), 1+by.IntN(40), 1+by.IntN(5)) {
			c.equate(e.L, e.R)
		}
	}
}

// However often is asked, the steps are those of what was equated.
func TestStepsOfQuestions(t *testing.T) {
	c := count(t)
	for i := range 10 {
		c.equate(v(i), arrow(v(i+1), v(i+1)))
		steps := c.c.Steps()
		for j := range 2000 {
			p, _ := c.c.Part(j % 12)
			p.Parts()
			c.c.Same(j%12, j%5)
			c.c.Class(j % 12)
			c.c.Parts(j % 12)
			c.c.Kind(j % 12)
			c.c.Vars()
		}
		if c.c.Steps() != steps {
			t.Fatalf("%d steps were made of questions", c.c.Steps()-steps)
		}
	}
	c.check()
}

// chain is an arrow from each of so many variables, each so far behind the one ahead, to the next one.
func chain(first, by, n int) api.Type {
	t := number()
	for i := range n {
		t = arrow(v(first+(n-1-i)*by), t)
	}
	return t
}

// A forest (9) has at most 2^20 elements: equations may have more parts.
func TestMoreThanAForestHas(t *testing.T) {
	const n = 300_000
	c := count(t)
	c.equate(v(3*n), v(3*n))
	for range 2 {
		c.equate(chain(0, 3, n), chain(1, 3, n))
	}
	c.equate(chain(2, 3, n), chain(1, 3, n))
	if e := c.c.Err(); e != api.OK {
		t.Fatalf("Err: %v", e)
	}
	for i := range n {
		class := c.c.Class(3*i + i%3)
		if !slices.Equal(class, []int{3 * i, 3*i + 1, 3*i + 2}) {
			t.Fatalf("Class(%d): %v", 3*i+i%3, class)
		}
		if !c.c.Same(3*i, 3*i+2) || i > 0 && c.c.Same(3*i, 3*i-1) {
			t.Fatalf("Same(%d, %d)", 3*i, 3*i+2)
		}
		if p, _ := c.c.Part(3*i + (i+1)%3); p.Var() != 3*i || p.Kind() != 0 {
			t.Fatalf("Part(%d): Var %d, Kind %d", 3*i+(i+1)%3, p.Var(), p.Kind())
		}
	}
	// Those that are far from one another, and those that are near, become one.
	for i := 1; i < 1000; i++ {
		c.equate(v(3*(i-1)), v(3*(n-i)+1))
		c.equate(v(3*(n-i)), v(3*i+2))
	}
	if class := c.c.Class(0); len(class) != 3*1999 || class[0] != 0 || class[len(class)-1] != 3*n-1 {
		t.Fatalf("of many that are one: %d", len(class))
	}
	c.equate(v(2), tuple(v(3*n), number()))
	for _, a := range []int{0, 1, 3*n - 1, 3*n - 2, 1500} {
		parts, ok := c.c.Parts(a)
		if !ok || len(parts) != 2 || parts[0].Var() != 3*n || parts[1].Kind() != api.TInt {
			t.Fatalf("Parts(%d): %d, %v", a, len(parts), ok)
		}
	}
	if c.c.Kind(3*n) != 0 || len(c.c.Class(3*n)) != 1 {
		t.Errorf("of one that is alone: Kind %d", c.c.Kind(3*n))
	}
	c.equate(v(3*n-1), arrow(v(0), v(0)))
	if e := c.c.Err(); e != api.ErrClash {
		t.Errorf("Err: %v", e)
	}
}

func TestDeepTypes(t *testing.T) {
	defer debug.SetMaxStack(debug.SetMaxStack(1 << 20))
	left, right, other := v(0), v(1), v(2)
	for range deep {
		left, right, other = arrow(left, number()), arrow(right, v(4)), arrow(other, v(4))
	}
	c := count(t)
	c.equate(left, right)
	c.equate(v(5), other)
	c.equate(v(5), left)
	if !slices.Equal(c.c.Class(2), []int{0, 1, 2}) || c.c.Kind(4) != api.TInt || c.c.Kind(0) != 0 {
		t.Errorf("Class %v, Kind %d", c.c.Class(2), c.c.Kind(4))
	}
	p, _ := c.c.Part(5)
	for range deep {
		p = p.Parts()[0]
	}
	if p.Var() != 0 || p.Kind() != 0 {
		t.Errorf("deep down: Var %d, Kind %d", p.Var(), p.Kind())
	}
	c.equate(arrow(left, v(0)), arrow(right, truth()))
	if e := c.c.Equate(left, arrow(left, v(7))); e != api.ErrClash {
		t.Errorf("a clash deep down: %v", e)
	}
}

// The same calls in the same order have the same Ids and steps.
func TestSameCallsAnswerTheSame(t *testing.T) {
	do := func() []int {
		by := begin(3)
		var told []int
		for range 200 {
			c := unify.New()
			for _, e := range by.eqs(6, 8, 2) {
				told = append(told, int(c.Equate(e.L, e.R)), c.Steps())
				for _, a := range c.Vars() {
					p, _ := c.Part(a)
					told = append(told, p.Id(), p.Var(), p.Kind())
					for _, x := range p.Parts() {
						told = append(told, x.Id(), x.Var(), x.Kind())
					}
				}
			}
		}
		return told
	}
	if !slices.Equal(do(), do()) {
		t.Error("two answers are unlike")
	}
}

// P12.4

// permute hands a list in all orders, its first ones staying, to a function.
func permute(l []api.Eq, first int, visit func(l []api.Eq)) {
	if first == len(l) {
		visit(l)
		return
	}
	for i := first; i < len(l); i++ {
		l[first], l[i] = l[i], l[first]
		permute(l, first+1, visit)
		l[first], l[i] = l[i], l[first]
	}
}

// inAnyOrder holds equations in all orders, with all ways to change their sides about, against them as they are.
func inAnyOrder(t *testing.T, what any, l []api.Eq) {
	t.Helper()
	permute(slices.Clone(l), 0, func(order []api.Eq) {
		for about := range 1 << len(order) {
			c := unify.New()
			for i, e := range order {
				if about>>i&1 == 1 {
					e.L, e.R = e.R, e.L
				}
				c.Equate(e.L, e.R)
			}
			hold(t, what, c, l)
		}
	})
}

func TestOrderOfEquations(t *testing.T) {
	for name, l := range clashes() {
		if len(l) < 5 {
			inAnyOrder(t, name, l)
		}
	}
	by := begin(4)
	for range 60 {
		l := by.eqs(4, 6, 2)
		inAnyOrder(t, text(l), l)
	}
	inAnyOrder(t, "without an end", []api.Eq{eq(v(0), arrow(v(0), v(1))), eq(v(2), arrow(v(1), v(2))), eq(v(0), v(2)), eq(v(3), tuple(v(0), v(3)))})
}

// rules 4 and 7

func TestNothingIsShared(t *testing.T) {
	l := []api.Eq{eq(v(0), arrow(tuple(v(1), number()), v(2))), eq(arrow(v(3), v(1)), arrow(v(2), truth()))}
	c := unify.New()
	for _, e := range l {
		left, right := types.Copy(e.L), types.Copy(e.R)
		c.Equate(left, right)
		if !types.Same(left, e.L) || !types.Same(right, e.R) {
			t.Fatal("what was handed in is changed")
		}
		for _, side := range []api.Type{left, right} {
			if len(side.Parts) > 0 {
				side.Parts[0].Kind, side.Parts[1] = api.TBool, number()
			}
		}
	}
	hold(t, "what was handed in is written into", c, l)
	for range 2 {
		for a := range 4 {
			class := c.Class(a)
			parts, _ := c.Parts(a)
			for i := range class[:cap(class)] {
				class[:cap(class)][i] = 77
			}
			for i := range parts[:cap(parts)] {
				parts[:cap(parts)][i] = unify.Part{}
			}
			if p, _ := c.Part(a); len(p.Parts()) > 0 {
				p.Parts()[0] = unify.Part{}
			}
		}
		for i, vars := 0, c.Vars(); i < cap(vars); i++ {
			vars[:cap(vars)][i] = 77
		}
		hold(t, "what was answered is written into", c, l)
	}
}

func TestListsWithoutElements(t *testing.T) {
	c := unify.New()
	if e := c.Equate(v(0), api.Type{Kind: api.TInt, Parts: []api.Type{}}); e != api.OK || c.Kind(0) != api.TInt {
		t.Errorf("int with an empty list: %v, Kind %d", e, c.Kind(0))
	}
	if e := c.Equate(number(), v(0)); e != api.OK {
		t.Errorf("int without a list: %v", e)
	}
	if n, e := unify.First([]api.Eq{}...); n != 0 || e != api.OK {
		t.Errorf("First of an empty list: %d, %v", n, e)
	}
}

func TestExampleOfTheDocument(t *testing.T) {
	c := equated(t, "example", []api.Eq{eq(v(0), arrow(number(), v(1))), eq(v(0), arrow(v(2), truth()))})
	if c.Same(1, 2) || !slices.Equal(c.Class(1), []int{1}) || !slices.Equal(c.Class(2), []int{2}) || c.Kind(2) != api.TInt || c.Kind(1) != api.TBool {
		t.Errorf("Class %v, %v, Kind %d, %d", c.Class(1), c.Class(2), c.Kind(1), c.Kind(2))
	}
}
