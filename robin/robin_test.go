package robin_test

import (
	"math"
	"math/rand/v2"
	"runtime/debug"
	"slices"
	"testing"

	"pangram/api"
	"pangram/robin"
	"pangram/solve"
	"pangram/subst"
	"pangram/types"
)

const deep = 1 << 16 // levels: calls within calls as deep would take more than the stack that TestDeepTypes gives

const greatest = 1<<30 - 1 // the last variable

func typ(kind, n int, parts ...api.Type) api.Type {
	return api.Type{Kind: kind, N: n, Parts: parts}
}

func v(n int) api.Type { return typ(api.TVar, n) }

func arrow(a, b api.Type) api.Type { return typ(api.TArrow, 0, a, b) }

func tuple(parts ...api.Type) api.Type { return typ(api.TTuple, 0, parts...) }

func truth() api.Type { return typ(api.TBool, 0) }

func number() api.Type { return typ(api.TInt, 0) }

func many(n int, t api.Type) []api.Type { return slices.Repeat([]api.Type{t}, n) }

func bind(n int, t api.Type) api.Bind { return api.Bind{Var: n, Type: t} }

func list(l ...api.Type) []api.Type { return l }

// wrongTypes is types that aren't right, by what is wrong with them.
func wrongTypes() map[string]api.Type {
	return map[string]api.Type{
		"the zero one":                 {},
		"a kind above 5":               typ(6, 0),
		"a variable below 0":           v(-1),
		"a variable of 2^30":           v(1 << 30),
		"a variable with a part":       typ(api.TVar, 0, v(0)),
		"int with a number":            typ(api.TInt, 1),
		"int with a part":              typ(api.TInt, 0, v(0)),
		"an arrow of one part":         typ(api.TArrow, 0, v(0)),
		"a tuple of one part":          tuple(v(0)),
		"a tuple of nine parts":        tuple(many(9, v(0))...),
		"a wrong part behind others":   tuple(v(0), arrow(v(0), number()), v(-1)),
		"a wrong part, further inside": arrow(v(0), tuple(truth(), arrow(tuple(v(1)), truth()))),
	}
}

// told is binds as a text.
func told(l []api.Bind) string {
	s := ""
	for i, b := range l {
		if i > 0 {
			s += "; "
		}
		s += types.Name(b.Var) + ": " + types.Print(b.Type)
	}
	return s
}

// text is pairs as a text, so that a test tells which ones fail.
func text(a, b []api.Type) string {
	s := ""
	for i := range a {
		s += types.Print(a[i]) + " and " + types.Print(b[i]) + "; "
	}
	return s
}

func equations(a, b []api.Type) []api.Eq {
	var l []api.Eq
	for i := range a {
		l = append(l, api.Eq{L: a[i], R: b[i]})
	}
	return l
}

func sameBinds(a, b []api.Bind) bool {
	return slices.EqualFunc(a, b, func(x, y api.Bind) bool { return x.Var == y.Var && types.Same(x.Type, y.Type) })
}

// second unifies a second way, by calls within calls, as the words of the document go: each bind is put into those that are known.
type second struct{ known []api.Bind }

func (s *second) unify(a, b api.Type) api.Errno {
	a, b = subst.Apply(s.known, a), subst.Apply(s.known, b)
	switch {
	case a.Kind == api.TVar && b.Kind == api.TVar && a.N == b.N:
		return api.OK
	case a.Kind == api.TVar && types.Has(b, a.N), b.Kind == api.TVar && types.Has(a, b.N):
		return api.ErrCycle
	case a.Kind == api.TVar:
		s.known = subst.Then(s.known, []api.Bind{bind(a.N, b)})
		return api.OK
	case b.Kind == api.TVar:
		s.known = subst.Then(s.known, []api.Bind{bind(b.N, a)})
		return api.OK
	case a.Kind != b.Kind || len(a.Parts) != len(b.Parts):
		return api.ErrClash
	}
	return s.lists(a.Parts, b.Parts)
}

func (s *second) lists(a, b []api.Type) api.Errno {
	for i := range a {
		if e := s.unify(a[i], b[i]); e != api.OK {
			return e
		}
	}
	return api.OK
}

// wantMostGeneral wants binds that make pairs the same, and of which some others that do so come.
func wantMostGeneral(t *testing.T, what any, a, b []api.Type, got, other []api.Bind) {
	t.Helper()
	vars := types.Vars(slices.Concat(a, b)...)
	for _, x := range got {
		if !slices.Contains(vars, x.Var) || types.Same(x.Type, v(x.Var)) {
			t.Fatalf("%v: %s: a bind of %s", what, told(got), types.Name(x.Var))
		}
		vars = append(vars, types.Vars(x.Type)...)
	}
	if !subst.Right(got) || !subst.Solved(got) || !subst.Solves(got, equations(a, b)...) {
		t.Fatalf("%v: %s doesn't make them the same", what, told(got))
	}
	for _, x := range other {
		vars = append(append(vars, x.Var), types.Vars(x.Type)...)
	}
	if !subst.Alike(other, subst.Then(got, other), vars...) {
		t.Fatalf("%v: of %s doesn't come %s", what, told(got), told(other))
	}
}

// wantError wants an error of pairs, one by one or together.
func wantError(t *testing.T, what any, a, b []api.Type, want api.Errno) {
	t.Helper()
	if got, e := robin.Lists(a, b); e != want || got != nil {
		t.Fatalf("%v: Lists: %s, %v, want %v", what, told(got), e, want)
	}
	if len(a) != 1 || len(b) != 1 {
		return
	}
	if got, e := robin.Unify(a[0], b[0]); e != want || got != nil {
		t.Fatalf("%v: Unify: %s, %v, want %v", what, told(got), e, want)
	}
	for _, l := range [][]api.Bind{nil, {}, {bind(greatest, number())}} {
		if got, e := robin.Extend(l, a[0], b[0]); e != want || got != nil {
			t.Fatalf("%v: Extend: %s, %v, want %v", what, told(got), e, want)
		}
	}
}

// hold holds what is told of pairs against what comes of them a second way.
func hold(t *testing.T, what any, a, b []api.Type) api.Errno {
	t.Helper()
	var s second
	if e := s.lists(a, b); e != api.OK {
		wantError(t, what, a, b, e)
		return e
	}
	got, e := robin.Lists(a, b)
	if e != api.OK {
		t.Fatalf("%v: Lists: %v, want %s", what, e, told(s.known))
	}
	wantMostGeneral(t, what, a, b, got, s.known)
	if len(a) == 1 {
		got, e := robin.Unify(a[0], b[0])
		if e != api.OK {
			t.Fatalf("%v: Unify: %v, want %s", what, e, told(s.known))
		}
		wantMostGeneral(t, what, a, b, got, s.known)
	}
	return api.OK
}

// pair is two types with what is told of them.
type pair struct {
	a, b api.Type
	want []api.Bind // one of those that may be told
	e    api.Errno
}

// pairs is pairs of types, by what is to be seen in them.
func pairs() map[string]pair {
	itself := arrow(v(0), number())
	return map[string]pair{
		"int and int":                      {a: number(), b: number()},
		"the same, without variables":      {a: arrow(number(), tuple(truth(), number())), b: arrow(number(), tuple(truth(), number()))},
		"a variable and itself":            {a: v(4), b: v(4)},
		"the same, with variables":         {a: arrow(v(4), tuple(v(3), v(4))), b: arrow(v(4), tuple(v(3), v(4)))},
		"two variables":                    {a: v(4), b: v(7), want: []api.Bind{bind(4, v(7))}},
		"two variables, the greater first": {a: v(7), b: v(4), want: []api.Bind{bind(7, v(4))}},
		"the first and the last variable":  {a: v(greatest), b: v(0), want: []api.Bind{bind(greatest, v(0))}},
		"a variable and int":               {a: v(3), b: number(), want: []api.Bind{bind(3, number())}},
		"bool and a variable":              {a: truth(), b: v(3), want: []api.Bind{bind(3, truth())}},
		"a variable and an arrow":          {a: v(3), b: arrow(v(1), v(2)), want: []api.Bind{bind(3, arrow(v(1), v(2)))}},
		"an arrow and a variable":          {a: arrow(v(1), v(2)), b: v(3), want: []api.Bind{bind(3, arrow(v(1), v(2)))}},
		"of both sides":                    {a: arrow(v(0), number()), b: arrow(truth(), v(1)), want: []api.Bind{bind(0, truth()), bind(1, number())}},
		"a bind put in":                    {a: arrow(v(0), v(0)), b: arrow(arrow(v(1), v(2)), v(3)), want: []api.Bind{bind(0, arrow(v(1), v(2))), bind(3, arrow(v(1), v(2)))}},
		"a bind put into one ahead":        {a: arrow(v(0), v(1)), b: arrow(arrow(v(1), v(1)), truth()), want: []api.Bind{bind(0, arrow(truth(), truth())), bind(1, truth())}},
		"a variable bound already":         {a: arrow(v(0), v(0)), b: arrow(arrow(v(1), number()), arrow(truth(), v(2))), want: []api.Bind{bind(0, arrow(truth(), number())), bind(1, truth()), bind(2, number())}},
		"one class of many":                {a: tuple(v(0), v(1), v(2), v(3)), b: tuple(v(1), v(2), v(3), v(0)), want: []api.Bind{bind(0, v(3)), bind(1, v(3)), bind(2, v(3))}},
		"tuples of eight":                  {a: tuple(many(8, v(0))...), b: tuple(v(1), v(2), v(3), v(4), v(5), v(6), v(7), number()), want: []api.Bind{bind(0, number()), bind(1, number()), bind(2, number()), bind(3, number()), bind(4, number()), bind(5, number()), bind(6, number()), bind(7, number())}},
		"what seems to be in itself":       {a: arrow(v(0), arrow(v(1), v(2))), b: arrow(arrow(v(1), v(2)), v(0)), want: []api.Bind{bind(0, arrow(v(1), v(2)))}},
		"a type bound to another bound":    {a: tuple(v(0), v(1), v(0)), b: tuple(arrow(v(2), v(3)), arrow(v(4), number()), v(1)), want: []api.Bind{bind(0, arrow(v(4), number())), bind(1, arrow(v(4), number())), bind(2, v(4)), bind(3, number())}},

		"int and bool":                {a: number(), b: truth(), e: api.ErrClash},
		"int and an arrow":            {a: number(), b: arrow(v(0), v(1)), e: api.ErrClash},
		"an arrow and a pair":         {a: arrow(v(0), v(1)), b: tuple(v(0), v(1)), e: api.ErrClash},
		"a pair and three":            {a: tuple(v(0), v(1)), b: tuple(v(0), v(1), v(2)), e: api.ErrClash},
		"three and a pair, a cycle":   {a: tuple(v(0), v(1), v(2)), b: tuple(arrow(v(0), v(0)), v(1)), e: api.ErrClash},
		"deep down":                   {a: arrow(v(0), tuple(number(), arrow(v(1), number()))), b: arrow(v(0), tuple(number(), arrow(v(1), truth()))), e: api.ErrClash},
		"behind a bind":               {a: arrow(v(0), v(0)), b: arrow(number(), truth()), e: api.ErrClash},
		"behind two binds":            {a: tuple(v(0), v(1), v(0)), b: tuple(number(), truth(), v(1)), e: api.ErrClash},
		"a pair and three, by binds":  {a: arrow(v(0), v(0)), b: arrow(tuple(v(1), v(1)), tuple(v(1), v(1), v(1))), e: api.ErrClash},
		"'a and 'a -> int":            {a: v(0), b: itself, e: api.ErrCycle},
		"'a -> int and 'a":            {a: itself, b: v(0), e: api.ErrCycle},
		"deep in itself":              {a: v(0), b: tuple(number(), arrow(v(1), tuple(truth(), v(0)))), e: api.ErrCycle},
		"in itself behind a bind":     {a: arrow(v(0), v(1)), b: arrow(v(1), arrow(v(0), number())), e: api.ErrCycle},
		"in itself, by the left one":  {a: arrow(v(0), v(0)), b: arrow(v(1), arrow(v(1), number())), e: api.ErrCycle},
		"in itself behind two binds":  {a: tuple(v(0), v(1), v(2)), b: tuple(arrow(v(1), v(1)), arrow(v(2), number()), v(0)), e: api.ErrCycle},
		"in itself, by the right one": {a: tuple(arrow(v(1), v(1)), arrow(v(2), number()), v(0)), b: tuple(v(0), v(1), v(2)), e: api.ErrCycle},
		"within what it is bound to":  {a: arrow(v(0), arrow(v(1), v(1))), b: arrow(arrow(v(1), v(1)), arrow(v(0), v(0))), e: api.ErrCycle},

		"a clash ahead of a cycle":      {a: tuple(number(), v(0)), b: tuple(truth(), itself), e: api.ErrClash},
		"a cycle ahead of a clash":      {a: tuple(v(0), number()), b: tuple(itself, truth()), e: api.ErrCycle},
		"a clash deep, ahead":           {a: tuple(arrow(v(1), number()), v(0)), b: tuple(arrow(v(1), truth()), itself), e: api.ErrClash},
		"a cycle deep, ahead":           {a: tuple(arrow(v(1), v(0)), number()), b: tuple(arrow(v(1), itself), truth()), e: api.ErrCycle},
		"a clash in a cycle's type":     {a: tuple(v(0), v(0)), b: tuple(arrow(v(0), number()), truth()), e: api.ErrCycle},
		"a cycle that would clash":      {a: arrow(v(0), v(0)), b: arrow(arrow(number(), v(1)), arrow(v(0), truth())), e: api.ErrClash},
		"a cycle, by binds, then clash": {a: tuple(v(0), v(1), number()), b: tuple(arrow(v(1), v(1)), arrow(v(0), v(0)), truth()), e: api.ErrCycle},
		"a clash between the binds":     {a: tuple(v(0), number(), v(1)), b: tuple(arrow(v(1), v(1)), truth(), arrow(v(0), v(0))), e: api.ErrClash},
		// The one is opened while it stands within the other one.
		"while it is opened, a clash": {a: arrow(v(9), arrow(v(9), v(8))), b: arrow(arrow(arrow(number(), v(1)), v(2)), arrow(arrow(v(9), number()), v(8))), e: api.ErrClash},
		"while it is opened, a cycle": {a: arrow(v(9), arrow(v(9), v(8))), b: arrow(arrow(arrow(v(2), v(1)), v(2)), arrow(arrow(v(9), number()), v(8))), e: api.ErrCycle},
	}
}

// P15.1

func TestUnify(t *testing.T) {
	for name, c := range pairs() {
		if e := hold(t, name, list(c.a), list(c.b)); e != c.e {
			t.Errorf("%s: %v, want %v", name, e, c.e)
		}
		if c.e != api.OK {
			wantError(t, name, list(c.a), list(c.b), c.e)
			continue
		}
		got, e := robin.Unify(c.a, c.b)
		if e != api.OK || len(got) != len(c.want) {
			t.Errorf("%s: %s, %v, want %s", name, told(got), e, told(c.want))
		}
		wantMostGeneral(t, name, list(c.a), list(c.b), got, c.want)
	}
}

func TestTypesThatArentRight(t *testing.T) {
	others := map[string]api.Type{"a variable": v(3), "int": number(), "an arrow": arrow(v(0), v(5))}
	for name, wrong := range wrongTypes() {
		wantError(t, name, list(wrong), list(wrong), api.ErrArg)
		for with, other := range others {
			what := name + ", " + with
			wantError(t, what, list(wrong), list(other), api.ErrArg)
			wantError(t, what, list(other), list(wrong), api.ErrArg)
			for failing, c := range pairs() {
				what := what + ", behind " + failing
				wantError(t, what, list(c.a, wrong), list(c.b, other), api.ErrArg)
				wantError(t, what, list(c.a, other), list(c.b, wrong), api.ErrArg)
				wantError(t, what, list(wrong, c.a), list(other, c.b), api.ErrArg)
			}
		}
	}
}

func TestLists(t *testing.T) {
	for name, c := range map[string]struct {
		a, b []api.Type
		want []api.Bind
		e    api.Errno
	}{
		"none":                          {},
		"none, without elements":        {a: []api.Type{}, b: nil},
		"one pair":                      {a: list(v(0)), b: list(number()), want: []api.Bind{bind(0, number())}},
		"what comes of pairs ahead":     {a: list(v(0), v(0)), b: list(arrow(v(1), number()), arrow(truth(), v(2))), want: []api.Bind{bind(0, arrow(truth(), number())), bind(1, truth()), bind(2, number())}},
		"what comes of pairs behind":    {a: list(v(0), v(1), v(2)), b: list(arrow(v(1), v(2)), v(2), truth()), want: []api.Bind{bind(0, arrow(truth(), truth())), bind(1, truth()), bind(2, truth())}},
		"one pair twice":                {a: list(v(0), v(0)), b: list(v(1), v(1)), want: []api.Bind{bind(0, v(1))}},
		"one pair, changed about":       {a: list(v(0), v(1)), b: list(v(1), v(0)), want: []api.Bind{bind(0, v(1))}},
		"more than a tuple has":         {a: many(20, v(0)), b: append(many(19, v(1)), number()), want: []api.Bind{bind(0, number()), bind(1, number())}},
		"unlike many, and none":         {a: list(v(0)), b: nil, e: api.ErrArg},
		"none, and unlike many":         {a: nil, b: list(v(0)), e: api.ErrArg},
		"unlike many":                   {a: list(v(0), v(1)), b: list(v(0), v(1), v(2)), e: api.ErrArg},
		"unlike many behind a clash":    {a: list(number(), v(1), v(1)), b: list(truth(), v(1)), e: api.ErrArg},
		"unlike many behind a cycle":    {a: list(v(0)), b: list(arrow(v(0), v(0)), v(1)), e: api.ErrArg},
		"not right behind a clash":      {a: list(number(), v(0)), b: list(truth(), v(-1)), e: api.ErrArg},
		"not right behind a cycle":      {a: list(v(0), typ(9, 9)), b: list(arrow(v(0), v(0)), v(1)), e: api.ErrArg},
		"a clash":                       {a: list(v(0), v(0)), b: list(number(), truth()), e: api.ErrClash},
		"a cycle":                       {a: list(v(0), v(1)), b: list(arrow(v(1), v(1)), arrow(v(0), v(0))), e: api.ErrCycle},
		"a clash ahead of a cycle":      {a: list(number(), v(0)), b: list(truth(), arrow(v(0), v(0))), e: api.ErrClash},
		"a cycle ahead of a clash":      {a: list(v(0), number()), b: list(arrow(v(0), v(0)), truth()), e: api.ErrCycle},
		"a clash, others around":        {a: list(v(5), v(6), v(5), v(7)), b: list(number(), v(7), truth(), arrow(v(6), v(6))), e: api.ErrClash},
		"a cycle at the end, no clash":  {a: list(v(5), v(6), v(5), v(7)), b: list(number(), v(7), number(), arrow(v(6), v(6))), e: api.ErrCycle},
		"a clash in what a cycle makes": {a: list(v(0), v(1), v(0)), b: list(arrow(v(1), v(1)), arrow(v(0), v(0)), number()), e: api.ErrCycle},
	} {
		if c.e != api.OK {
			wantError(t, name, c.a, c.b, c.e)
			continue
		}
		got, e := robin.Lists(c.a, c.b)
		if e != api.OK || len(got) != len(c.want) || len(c.a) == 0 && got != nil {
			t.Errorf("%s: %s, %v, want %s", name, told(got), e, told(c.want))
		}
		wantMostGeneral(t, name, c.a, c.b, got, c.want)
	}
}

// smallTypes is types of at most two levels.
func smallTypes() []api.Type {
	alone := []api.Type{v(0), v(1), number()}
	l := append(slices.Clone(alone), truth(), v(2), tuple(v(0), v(1), v(2)))
	for _, a := range alone {
		for _, b := range alone {
			l = append(l, arrow(a, b))
		}
	}
	return append(l, tuple(number(), v(2)), tuple(v(1), arrow(v(0), v(2))), arrow(v(2), v(0)))
}

func TestSmallTypes(t *testing.T) {
	l := smallTypes()
	for _, a := range l {
		for _, b := range l {
			hold(t, text(list(a), list(b)), list(a), list(b))
			for _, c := range l {
				for _, d := range l {
					ahead, behind := list(a, c), list(b, d)
					hold(t, text(ahead, behind), ahead, behind)
				}
			}
		}
	}
}

// chance gives types of a few variables, the same ones whenever the tests run.
type chance struct{ *rand.Rand }

func begin(n uint64) chance { return chance{rand.New(rand.NewPCG(n, 15))} }

func (c chance) typ(vars, depth int) api.Type {
	n := c.IntN(12)
	switch {
	case n < 5 || depth == 0:
		return v(c.IntN(vars))
	case n == 5:
		return number()
	case n < 10:
		return arrow(c.typ(vars, depth-1), c.typ(vars, depth-1))
	}
	parts := make([]api.Type, 2+c.IntN(2)*c.IntN(2))
	for i := range parts {
		parts[i] = c.typ(vars, depth-1)
	}
	return tuple(parts...)
}

func (c chance) types(n, vars, depth int) []api.Type {
	var l []api.Type
	for range n {
		l = append(l, c.typ(vars, c.IntN(depth+1)))
	}
	return l
}

func TestRowsByChance(t *testing.T) {
	by := begin(1)
	count := map[api.Errno]int{}
	const rows = 20000
	for range rows {
		vars, n := 2+by.IntN(12), 1+by.IntN(8)
		a, b := by.types(n, vars, 3), by.types(n, vars, 2)
		count[hold(t, text(a, b), a, b)]++
		if n > 1 {
			count[hold(t, text(a, b), list(tuple(a...)), list(tuple(b...)))]++
		}
	}
	if min(count[api.OK], count[api.ErrClash], count[api.ErrCycle]) < rows/10 {
		t.Errorf("of %d rows: %v", rows, count)
	}
}

// Another layer's way to unify agrees.
func TestSolveAgrees(t *testing.T) {
	by := begin(2)
	for range 5000 {
		vars, n := 2+by.IntN(8), 1+by.IntN(5)
		a, b := by.types(n, vars, 2), by.types(n, vars, 2)
		got, e := robin.Lists(a, b)
		want, f := solve.Solve(math.MaxInt, equations(a, b)...)
		if (e == api.OK) != (f == api.OK) {
			t.Fatalf("%s: %v, but %v", text(a, b), e, f)
		}
		if e == api.OK {
			wantMostGeneral(t, text(a, b), a, b, got, want)
		}
	}
}

// grounds hands all substitutions of the variables from n on, ahead of vars, by some types, to a function.
func grounds(n, vars int, l []api.Bind, by []api.Type, visit func(l []api.Bind)) {
	if n == vars {
		visit(l)
		return
	}
	for _, x := range by {
		grounds(n+1, vars, append(slices.Clip(l), bind(n, x)), by, visit)
	}
}

func substituted() []api.Type {
	return []api.Type{v(0), v(1), v(7), number(), truth(), arrow(number(), number()), arrow(v(7), truth()), arrow(v(1), v(1)), tuple(number(), v(7)), tuple(number(), number(), number())}
}

// Each substitution that makes two types the same comes of what is told; with an error there is none.
func TestAllThatDo(t *testing.T) {
	checked := 0
	for _, a := range smallTypes() {
		for _, b := range smallTypes() {
			got, e := robin.Unify(a, b)
			grounds(0, 3, nil, substituted(), func(l []api.Bind) {
				does := types.Same(subst.Apply(l, a), subst.Apply(l, b))
				if does {
					checked++
				}
				if does && (e != api.OK || !subst.Alike(l, subst.Then(got, l), 0, 1, 2, 7)) {
					t.Fatalf("%s: %s does, %s, %v", text(list(a), list(b)), told(l), told(got), e)
				}
			})
		}
	}
	if checked < 1000 {
		t.Errorf("%d substitutions", checked)
	}
}

// P15.2

// wantExtended wants what is told of two types under a substitution that is right and solved.
func wantExtended(t *testing.T, what any, l []api.Bind, a, b api.Type) api.Errno {
	t.Helper()
	under, over := subst.Apply(l, a), subst.Apply(l, b)
	var s second
	want := s.unify(under, over)
	got, e := robin.Extend(l, a, b)
	if e != want || e != api.OK && got != nil {
		t.Fatalf("%v: %s, %v, want %v", what, told(got), e, want)
	}
	if e != api.OK {
		return e
	}
	more := got[min(len(l), len(got)):]
	wantMostGeneral(t, what, list(under), list(over), more, s.known)
	if !sameBinds(got, subst.Then(l, more)) {
		t.Fatalf("%v: %s isn't %s and then %s", what, told(got), told(l), told(more))
	}
	if !subst.Right(got) || !subst.Solved(got) || !types.Same(subst.Apply(got, a), subst.Apply(got, b)) {
		t.Fatalf("%v: %s doesn't make them the same", what, told(got))
	}
	return e
}

func TestExtend(t *testing.T) {
	for name, c := range map[string]struct {
		l    []api.Bind
		a, b api.Type
		e    api.Errno
	}{
		"none":                          {nil, v(0), arrow(v(1), number()), api.OK},
		"without elements":              {[]api.Bind{}, v(0), v(1), api.OK},
		"others' variables":             {[]api.Bind{bind(5, v(6)), bind(3, number())}, v(0), v(1), api.OK},
		"put into what is known":        {[]api.Bind{bind(5, arrow(v(0), v(1))), bind(3, v(0))}, v(0), arrow(v(1), number()), api.OK},
		"what is known put in":          {[]api.Bind{bind(0, arrow(v(2), v(3))), bind(1, v(4))}, v(0), arrow(number(), v(1)), api.OK},
		"of a variable that is known":   {[]api.Bind{bind(0, v(2))}, v(0), number(), api.OK},
		"of two that are known":         {[]api.Bind{bind(0, arrow(v(2), number())), bind(1, arrow(truth(), v(3)))}, v(0), v(1), api.OK},
		"the same already":              {[]api.Bind{bind(0, arrow(v(2), number())), bind(1, arrow(v(2), number()))}, arrow(v(0), v(3)), arrow(v(1), v(3)), api.OK},
		"the same already, itself":      {[]api.Bind{bind(0, number())}, v(0), v(0), api.OK},
		"the same already, as a type":   {[]api.Bind{bind(0, arrow(v(2), number()))}, arrow(v(2), number()), v(0), api.OK},
		"one variable already":          {[]api.Bind{bind(0, v(2)), bind(1, v(2))}, v(0), v(1), api.OK},
		"in order":                      {[]api.Bind{bind(9, v(0)), bind(4, v(0)), bind(6, v(2))}, v(0), v(2), api.OK},
		"clashing already":              {[]api.Bind{bind(0, number()), bind(1, truth())}, v(0), v(1), api.ErrClash},
		"clashing already, as a type":   {[]api.Bind{bind(0, arrow(v(2), number()))}, v(0), tuple(v(2), number()), api.ErrClash},
		"clashing, in unlike many":      {[]api.Bind{bind(0, tuple(v(1), v(1)))}, tuple(v(1), v(1), v(1)), v(0), api.ErrClash},
		"in itself by what is known":    {[]api.Bind{bind(0, arrow(v(1), number()))}, v(0), v(1), api.ErrCycle},
		"in itself by two":              {[]api.Bind{bind(0, arrow(v(1), number())), bind(2, v(1))}, v(2), v(0), api.ErrCycle},
		"a cycle ahead of a clash":      {[]api.Bind{bind(0, arrow(v(1), v(1)))}, tuple(v(0), number()), tuple(v(1), truth()), api.ErrCycle},
		"a clash ahead of a cycle":      {[]api.Bind{bind(0, arrow(v(1), v(1)))}, tuple(number(), v(0)), tuple(truth(), v(1)), api.ErrClash},
		"a cycle, and a clash known":    {[]api.Bind{bind(0, number())}, tuple(v(1), v(0)), tuple(arrow(v(1), v(1)), truth()), api.ErrCycle},
		"the first and the last one":    {[]api.Bind{bind(greatest, v(0))}, v(greatest), v(greatest - 1), api.OK},
		"an error, others' binds known": {[]api.Bind{bind(5, v(6)), bind(3, number())}, number(), truth(), api.ErrClash},
	} {
		if e := wantExtended(t, name, c.l, c.a, c.b); e != c.e {
			t.Errorf("%s: %v, want %v", name, e, c.e)
		}
		if c.e != api.OK && c.e != wantExtended(t, name, c.l, c.b, c.a) {
			t.Errorf("%s, changed about", name)
		}
	}
	got, e := robin.Extend(nil, number(), number())
	if got != nil || e != api.OK {
		t.Errorf("nothing to bind: %v, %v", got, e)
	}
}

func TestExtendOfWhatMayNotBe(t *testing.T) {
	wrong := map[string][]api.Bind{
		"one variable twice":         {bind(0, number()), bind(0, number())},
		"below 0":                    {bind(-1, number())},
		"above the last":             {bind(0, number()), bind(1<<30, number())},
		"not solved, itself":         {bind(0, v(0))},
		"not solved, within itself":  {bind(0, arrow(v(0), v(1)))},
		"not solved, one behind":     {bind(0, v(1)), bind(1, number())},
		"not solved, one ahead":      {bind(0, number()), bind(5, truth()), bind(1, tuple(v(2), v(0)))},
		"not right, doesn't count":   {bind(0, number()), bind(1, v(2)), bind(0, v(-1))},
		"not solved, doesn't matter": {bind(40, v(41)), bind(41, v(42))},
		"the zero one":               {{}},
	}
	for name, x := range wrongTypes() {
		wrong[name] = []api.Bind{bind(5, number()), bind(6, x)}
	}
	for name, l := range wrong {
		for other, c := range pairs() {
			if got, e := robin.Extend(l, c.a, c.b); e != api.ErrArg || got != nil {
				t.Errorf("%s, %s: %s, %v", name, other, told(got), e)
			}
		}
	}
	for name, x := range wrongTypes() {
		for _, l := range [][]api.Bind{nil, {bind(0, number())}, {bind(0, v(0))}} {
			for _, y := range []api.Type{number(), truth(), v(0), v(3), x} {
				got, e := robin.Extend(l, x, y)
				turned, f := robin.Extend(l, y, x)
				if e != api.ErrArg || f != api.ErrArg || got != nil || turned != nil {
					t.Errorf("%s: %v, %v", name, e, f)
				}
			}
		}
	}
}

func TestExtendByChance(t *testing.T) {
	by := begin(3)
	count := map[api.Errno]int{}
	const rows = 10000
	for range rows {
		vars, n := 3+by.IntN(6), by.IntN(3)
		l, e := robin.Lists(by.types(n, vars, 2), by.types(n, vars, 2))
		if e != api.OK {
			continue
		}
		a, b := by.typ(vars, 2), by.typ(vars, 2)
		count[wantExtended(t, told(l)+": "+text(list(a), list(b)), l, a, b)]++
	}
	if min(count[api.OK], count[api.ErrClash], count[api.ErrCycle]) < rows/50 {
		t.Errorf("of %d rows: %v", rows, count)
	}
}

// One pair behind the other is all together.
func TestExtendStepByStep(t *testing.T) {
	by := begin(4)
	for range 5000 {
		vars, n := 3+by.IntN(6), 1+by.IntN(4)
		a, b := by.types(n, vars, 2), by.types(n, vars, 2)
		want, e := robin.Lists(a, b)
		var l []api.Bind
		f := api.OK
		for i := 0; i < n && f == api.OK; i++ {
			l, f = robin.Extend(l, a[i], b[i])
		}
		if e != f {
			t.Fatalf("%s: %v, step by step %v", text(a, b), e, f)
		}
		if e == api.OK {
			wantMostGeneral(t, text(a, b), a, b, l, want)
		}
	}
}

// matched matches a second way, by calls within calls.
func matched(l []api.Bind, general, t api.Type) ([]api.Bind, bool) {
	if general.Kind == api.TVar {
		for _, b := range l {
			if b.Var == general.N {
				return l, types.Same(b.Type, t)
			}
		}
		return append(l, bind(general.N, t)), true
	}
	if general.Kind != t.Kind || len(general.Parts) != len(t.Parts) {
		return nil, false
	}
	for i, part := range general.Parts {
		more, ok := matched(l, part, t.Parts[i])
		if !ok {
			return nil, false
		}
		l = more
	}
	return l, true
}

// holdMatch holds what is told against what comes a second way, and against what the document says of it.
func holdMatch(t *testing.T, general, x api.Type) bool {
	t.Helper()
	what := types.Print(general) + " as " + types.Print(x)
	want, ok := matched(nil, general, x)
	got, e := robin.Match(general, x)
	if !ok {
		if e != api.ErrClash || got != nil {
			t.Fatalf("%s: %s, %v", what, told(got), e)
		}
		return false
	}
	if e != api.OK || !sameBinds(got, want) || len(want) == 0 && got != nil {
		t.Fatalf("%s: %s, %v, want %s", what, told(got), e, told(want))
	}
	var vars []int
	for _, b := range got {
		vars = append(vars, b.Var)
	}
	if !slices.Equal(vars, types.Vars(general)) || !types.Same(subst.Apply(got, general), x) {
		t.Fatalf("%s: %s", what, told(got))
	}
	return true
}

func TestMatch(t *testing.T) {
	for name, c := range map[string]struct {
		general, t api.Type
		want       []api.Bind
		e          api.Errno
	}{
		"a variable and int":               {v(3), number(), []api.Bind{bind(3, number())}, api.OK},
		"a variable and another one":       {v(3), v(1), []api.Bind{bind(3, v(1))}, api.OK},
		"a variable and itself":            {v(3), v(3), []api.Bind{bind(3, v(3))}, api.OK},
		"a variable in its own type":       {v(3), arrow(v(3), v(3)), []api.Bind{bind(3, arrow(v(3), v(3)))}, api.OK},
		"changed about":                    {arrow(v(0), v(1)), arrow(v(1), v(0)), []api.Bind{bind(0, v(1)), bind(1, v(0))}, api.OK},
		"one on":                           {tuple(v(0), v(1), v(2)), tuple(v(1), v(2), v(3)), []api.Bind{bind(0, v(1)), bind(1, v(2)), bind(2, v(3))}, api.OK},
		"without variables":                {arrow(number(), truth()), arrow(number(), truth()), nil, api.OK},
		"without variables, others":        {arrow(number(), truth()), arrow(number(), number()), nil, api.ErrClash},
		"int and a variable":               {number(), v(0), nil, api.ErrClash},
		"an arrow and a variable":          {arrow(v(0), v(1)), v(5), nil, api.ErrClash},
		"twice the same":                   {tuple(v(0), v(0)), tuple(arrow(v(1), v(0)), arrow(v(1), v(0))), []api.Bind{bind(0, arrow(v(1), v(0)))}, api.OK},
		"twice, unlike":                    {tuple(v(0), v(0)), tuple(number(), truth()), nil, api.ErrClash},
		"twice, unlike variables":          {arrow(v(0), v(0)), arrow(v(0), v(1)), nil, api.ErrClash},
		"twice, unlike deep down":          {arrow(v(0), v(0)), arrow(arrow(number(), v(1)), arrow(number(), v(2))), nil, api.ErrClash},
		"in the order in which they stand": {tuple(v(9), arrow(v(2), v(9)), v(0), v(4)), tuple(number(), arrow(truth(), number()), v(1), v(0)), []api.Bind{bind(9, number()), bind(2, truth()), bind(0, v(1)), bind(4, v(0))}, api.OK},
		"a pair and three":                 {tuple(v(0), v(1)), tuple(v(0), v(1), v(2)), nil, api.ErrClash},
		"three and a pair":                 {tuple(v(0), v(1), v(2)), tuple(v(0), v(1)), nil, api.ErrClash},
		"an arrow and a pair":              {arrow(v(0), v(1)), tuple(v(0), v(1)), nil, api.ErrClash},
		"a clash behind binds":             {tuple(v(0), v(1), number()), tuple(number(), truth(), truth()), nil, api.ErrClash},
		"what unifies, but is less":        {arrow(v(0), number()), arrow(truth(), v(1)), nil, api.ErrClash},
		"the last variable":                {v(greatest), arrow(v(0), v(greatest)), []api.Bind{bind(greatest, arrow(v(0), v(greatest)))}, api.OK},
		"the number of int":                {tuple(v(0), number(), v(0)), tuple(truth(), number(), truth()), []api.Bind{bind(0, truth())}, api.OK},
	} {
		got, e := robin.Match(c.general, c.t)
		if e != c.e || !sameBinds(got, c.want) {
			t.Errorf("%s: %s, %v, want %s, %v", name, told(got), e, told(c.want), c.e)
		}
		holdMatch(t, c.general, c.t)
	}
}

func TestMatchOfTypesThatArentRight(t *testing.T) {
	for name, wrong := range wrongTypes() {
		for _, other := range []api.Type{v(0), number(), arrow(v(0), v(0)), wrong} {
			got, e := robin.Match(wrong, other)
			turned, f := robin.Match(other, wrong)
			if e != api.ErrArg || f != api.ErrArg || got != nil || turned != nil {
				t.Errorf("%s: %v, %v", name, e, f)
			}
		}
		// Right up to where they clash.
		got, e := robin.Match(tuple(number(), wrong), tuple(truth(), v(0)))
		turned, f := robin.Match(tuple(number(), v(0)), tuple(truth(), wrong))
		if e != api.ErrArg || f != api.ErrArg || got != nil || turned != nil {
			t.Errorf("%s, behind a clash: %v, %v", name, e, f)
		}
	}
}

func TestMatchOfSmallTypes(t *testing.T) {
	for _, general := range smallTypes() {
		for _, x := range smallTypes() {
			ok := holdMatch(t, general, x)
			grounds(0, 3, nil, substituted(), func(l []api.Bind) {
				if types.Same(subst.Apply(l, general), x) && !ok {
					t.Fatalf("%s makes %s of %s", told(l), types.Print(x), types.Print(general))
				}
			})
		}
	}
}

func TestMatchByChance(t *testing.T) {
	by := begin(5)
	for range 20000 {
		vars := 2 + by.IntN(6)
		general := by.typ(vars, 3)
		var l []api.Bind
		for _, n := range types.Vars(general) {
			l = append(l, bind(n, by.typ(vars, 2)))
		}
		x := subst.Apply(l, general)
		got, e := robin.Match(general, x)
		if e != api.OK || !sameBinds(got, l) {
			t.Fatalf("%s as %s: %s, %v, want %s", types.Print(general), types.Print(x), told(got), e, told(l))
		}
		holdMatch(t, general, x)
		holdMatch(t, x, general)
		holdMatch(t, general, by.typ(vars, 3))
	}
}

// P15.3

func TestMatchedBothWays(t *testing.T) {
	by := begin(6)
	both := 0
	for range 50000 {
		vars := 1 + by.IntN(3)
		a, b := by.typ(vars, 2), by.typ(vars, 2)
		l, e := robin.Match(a, b)
		back, f := robin.Match(b, a)
		if e == api.OK && !types.Same(subst.Apply(l, a), b) {
			t.Fatalf("%s as %s: %s", types.Print(a), types.Print(b), told(l))
		}
		alike := types.Same(types.Canon(a), types.Canon(b))
		if alike != (e == api.OK && f == api.OK) {
			t.Fatalf("%s as %s: %s, %s", types.Print(a), types.Print(b), told(l), told(back))
		}
		if alike {
			both++
		}
	}
	if both < 1000 {
		t.Errorf("%d both ways", both)
	}
}

// long, deep and great ones

// doubled is pairs by which each of the variables from at on, but the last one of n, stands for the arrow from the next one to that.
func doubled(at, n int) ([]api.Type, []api.Type) {
	var a, b []api.Type
	for i := at; i < at+n-1; i++ {
		a, b = append(a, v(i)), append(b, arrow(v(i+1), v(i+1)))
	}
	return a, b
}

// Types that are too great to be laid are known all the same.
func TestGreatTypes(t *testing.T) {
	const n = 300
	a, b := doubled(0, n)
	for name, c := range map[string]struct {
		a, b []api.Type
		e    api.Errno
	}{
		"a clash at the end":          {list(number()), list(truth()), api.ErrClash},
		"a cycle at the end":          {list(v(n - 1)), list(tuple(v(0), v(0))), api.ErrCycle},
		"a cycle by a variable":       {list(v(n), v(n)), list(v(0), v(n-1)), api.ErrCycle},
		"the same, and a clash":       {list(v(n), v(0), v(n)), list(v(0), v(n), truth()), api.ErrClash},
		"the greatest one, as a type": {list(v(0)), list(arrow(v(1), tuple(v(2), v(2)))), api.ErrClash},
	} {
		wantError(t, name, slices.Concat(a, c.a), slices.Concat(b, c.b), c.e)
	}
	backwards := func(l []api.Type) []api.Type {
		l = slices.Clone(l)
		slices.Reverse(l)
		return l
	}
	wantError(t, "from the least one on", append(backwards(a), number()), append(backwards(b), truth()), api.ErrClash)
	wantError(t, "changed about", append(backwards(b), number()), append(backwards(a), truth()), api.ErrClash)
	// Two that are as great are made the same, part by part.
	c, d := doubled(n, n)
	wantError(t, "two", slices.Concat(a, c, list(v(0), number())), slices.Concat(b, d, list(v(n), truth())), api.ErrClash)
	wantError(t, "two, unlike deep down", slices.Concat(a, c, list(v(n-1), v(2*n-1), v(0))), slices.Concat(b, d, list(number(), truth(), v(n))), api.ErrClash)
	wantError(t, "two, in each other", slices.Concat(a, c, list(v(0), v(n-1))), slices.Concat(b, d, list(v(n), v(n+1))), api.ErrCycle)
}

// Two great types whose variables stand nowhere at the same places.
func TestGreatTypesOutOfStep(t *testing.T) {
	const n = 200
	var a, b []api.Type
	for i := range n {
		x := arrow(number(), v(i+1))
		y := v(1000 + 2*i)
		a, b = append(a, v(i)), append(b, arrow(x, x))
		a, b = append(a, y), append(b, arrow(v(1001+2*i), v(1001+2*i)))
		a, b = append(a, v(1001+2*i)), append(b, arrow(number(), v(1002+2*i)))
	}
	a, b = append(a, v(0), truth()), append(b, v(1000), number())
	wantError(t, "out of step", a, b, api.ErrClash)
	a, b = append(a[:len(a)-1], v(n)), append(b[:len(b)-1], arrow(v(1000+2*n), number()))
	wantError(t, "out of step, a cycle", a, b, api.ErrCycle)
}

func TestExtendOfGreatTypes(t *testing.T) {
	const n, often = 1 << 12, 1 << 12
	great := v(0)
	for range n {
		great = arrow(great, number())
	}
	l := []api.Bind{bind(1, great), bind(2, great)}
	a, b := v(9), v(9)
	for range often {
		a, b = arrow(v(1), a), arrow(v(2), b)
	}
	got, e := robin.Extend(l, a, b)
	if e != api.OK || !sameBinds(got, l) {
		t.Errorf("the same already: %d, %v", len(got), e)
	}
	if got, e := robin.Extend(l, tuple(a, number()), tuple(b, truth())); e != api.ErrClash || got != nil {
		t.Errorf("a clash: %v", e)
	}
	if got, e := robin.Extend(l, tuple(a, v(0)), tuple(b, v(1))); e != api.ErrCycle || got != nil {
		t.Errorf("a cycle: %v", e)
	}
}

func TestLongLists(t *testing.T) {
	const n = 1 << 17
	var vars, nexts, arrows []api.Type
	for i := range n {
		vars, nexts, arrows = append(vars, v(i)), append(nexts, v(i+1)), append(arrows, arrow(v(i+1), number()))
	}
	for _, c := range [][2][]api.Type{{vars, nexts}, {nexts, vars}} {
		got, e := robin.Lists(c[0], c[1])
		if e != api.OK || len(got) != n {
			t.Fatalf("one class: %d, %v", len(got), e)
		}
		for _, b := range got {
			if !types.Same(b.Type, got[0].Type) || b.Type.Kind != api.TVar {
				t.Fatalf("one class: %s", told([]api.Bind{got[0], b}))
			}
		}
	}
	// From both ends on each is found to be finite, or not, without going through all the others anew.
	for range 2 {
		wantError(t, "a chain, a clash", append(vars, number()), append(arrows, truth()), api.ErrClash)
		wantError(t, "a chain, a cycle", append(vars, v(n)), append(arrows, v(0)), api.ErrCycle)
		slices.Reverse(vars)
		slices.Reverse(arrows)
	}
}

func TestDeepTypes(t *testing.T) {
	defer debug.SetMaxStack(debug.SetMaxStack(1 << 20))
	left, right, other := v(0), v(1), truth()
	for range deep {
		left, right, other = arrow(left, number()), arrow(right, v(4)), arrow(other, number())
	}
	got, e := robin.Lists(list(left, v(5), v(0)), list(right, right, truth()))
	if e != api.OK || len(got) != 4 || !types.Same(subst.Apply(got, v(5)), other) {
		t.Fatalf("Lists: %d, %v", len(got), e)
	}
	wantError(t, "a cycle", list(v(0)), list(left), api.ErrCycle)
	wantError(t, "a cycle deep down", list(left), list(arrow(left, v(7))), api.ErrCycle)
	wantError(t, "a clash", list(other), list(arrow(other, v(7))), api.ErrClash)
	got, e = robin.Extend([]api.Bind{bind(0, truth())}, left, right)
	if e != api.OK || len(got) != 3 || !types.Same(subst.Apply(got, right), other) {
		t.Errorf("Extend: %d, %v", len(got), e)
	}
	got, e = robin.Match(right, other)
	if e != api.OK || told(got) != "'b: bool; 'e: int" {
		t.Errorf("Match: %s, %v", told(got), e)
	}
	if _, e := robin.Match(left, right); e != api.ErrClash {
		t.Errorf("Match: %v", e)
	}
	got, e = robin.Match(tuple(v(3), v(3)), tuple(left, left))
	if e != api.OK || len(got) != 1 || !types.Same(got[0].Type, left) {
		t.Errorf("Match of a variable: %d, %v", len(got), e)
	}
}

// rules 4, 6 and 7

func TestSameCallsAnswerTheSame(t *testing.T) {
	do := func() string {
		by := begin(7)
		s := ""
		for range 1000 {
			a, b := by.types(4, 9, 2), by.types(4, 9, 2)
			l, _ := robin.Lists(a, b)
			more, _ := robin.Extend(l, by.typ(9, 2), by.typ(9, 2))
			s += told(l) + "|" + told(more) + "|"
		}
		return s
	}
	if do() != do() {
		t.Error("two answers are unlike")
	}
}

// spoil writes into all that a type is made of, and into its spare room.
func spoil(t *api.Type) {
	parts := t.Parts[:cap(t.Parts)]
	for i := range parts {
		spoil(&parts[i])
	}
	*t = typ(9, 9)
}

// unshared wants that no two binds of an answer share memory, nor two parts of one, nor any with what was handed in.
func unshared(t *testing.T, what string, handed []api.Type, tell func() []api.Bind) {
	t.Helper()
	var was []api.Type
	for _, x := range handed {
		was = append(was, types.Copy(x))
	}
	want, got := tell(), tell()
	if len(want) == 0 {
		t.Fatalf("%s: no binds", what)
	}
	for i := range got {
		for j := range got[i].Type.Parts {
			spoil(&got[i].Type.Parts[j])
			for k := j + 1; k < len(got[i].Type.Parts); k++ {
				if !types.Same(got[i].Type.Parts[k], want[i].Type.Parts[k]) {
					t.Fatalf("%s: parts of the bind %d share memory", what, i)
				}
			}
		}
		spoil(&got[i].Type)
		if !sameBinds(got[i+1:], want[i+1:]) {
			t.Fatalf("%s: binds behind %d share memory", what, i)
		}
	}
	spare := got[:cap(got)]
	for i := range spare {
		spare[i] = bind(-9, typ(9, 9))
	}
	for i, x := range handed {
		if !types.Same(x, was[i]) {
			t.Fatalf("%s: what was handed in, %d, is changed", what, i)
		}
	}
	if !sameBinds(tell(), want) {
		t.Fatalf("%s: told anew it is unlike", what)
	}
}

func TestNothingIsShared(t *testing.T) {
	// One type's memory in several places, so that answers could share it.
	part := arrow(v(2), number())
	left := tuple(v(0), v(1), v(5), v(6), v(7))
	right := tuple(tuple(v(1), v(1), part), part, v(1), arrow(v(1), part), part)
	known := []api.Bind{bind(10, arrow(v(2), v(2))), bind(11, part), bind(12, part)}
	handed := list(left, right, known[0].Type, known[1].Type, known[2].Type)
	unshared(t, "Unify", handed, func() []api.Bind {
		l, _ := robin.Unify(left, right)
		return l
	})
	unshared(t, "Lists", handed, func() []api.Bind {
		l, _ := robin.Lists(list(left, part), list(right, part))
		return l
	})
	unshared(t, "Extend", handed, func() []api.Bind {
		l, _ := robin.Extend(known, left, right)
		return l
	})
	unshared(t, "Extend, nothing new", handed, func() []api.Bind {
		l, _ := robin.Extend(known, part, part)
		return l
	})
	unshared(t, "Match", handed, func() []api.Bind {
		l, _ := robin.Match(left, right)
		return l
	})
	unshared(t, "Match of a variable", handed, func() []api.Bind {
		l, _ := robin.Match(tuple(v(0), v(1), v(0)), tuple(right, part, right))
		return l
	})
	// Spare room is left as it is.
	room := append(make([]api.Type, 0, 4), v(0), v(1))
	spare := room[:4]
	spare[2], spare[3] = truth(), number()
	l := append(make([]api.Bind, 0, 3), bind(5, v(6)))
	l[:3][1], l[:3][2] = bind(7, truth()), bind(8, number())
	robin.Lists(room, list(part, part))
	robin.Extend(l, tuple(room...), tuple(part, part))
	if !types.Same(spare[2], truth()) || !types.Same(spare[3], number()) || l[:3][1].Var != 7 || l[:3][2].Var != 8 {
		t.Error("spare room is written to")
	}
}

func TestListsWithoutElements(t *testing.T) {
	empty := api.Type{Kind: api.TInt, Parts: []api.Type{}}
	for name, l := range map[string][]api.Bind{
		"Unify":  first(robin.Unify(v(0), empty)),
		"Extend": first(robin.Extend([]api.Bind{}, empty, v(0))),
		"Match":  first(robin.Match(v(0), empty)),
		"Lists":  first(robin.Lists(list(empty, v(0)), list(number(), empty))),
	} {
		if told(l) != "'a: int" {
			t.Errorf("%s: %s", name, told(l))
		}
	}
}

func first(l []api.Bind, _ api.Errno) []api.Bind { return l }

func TestExampleOfTheDocument(t *testing.T) {
	got, e := robin.Unify(arrow(v(0), v(0)), arrow(number(), v(1)))
	if e != api.OK || told(got) != "'a: int; 'b: int" {
		t.Errorf("%s, %v", told(got), e)
	}
}
