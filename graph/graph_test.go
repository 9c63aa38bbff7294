package graph_test

import (
	"math"
	"runtime/debug"
	"slices"
	"testing"

	"pangram/api"
	"pangram/graph"
	"pangram/types"
)

const deep = 1 << 17 // levels: calls within calls as deep would take more than the stack that TestDeepTypes gives

const greatest = 1<<30 - 1 // the last variable

func typ(kind, n int, parts ...api.Type) api.Type {
	return api.Type{Kind: kind, N: n, Parts: parts}
}

func v(n int) api.Type { return typ(api.TVar, n) }

func arrow(a, b api.Type) api.Type { return typ(api.TArrow, 0, a, b) }

func tuple(parts ...api.Type) api.Type { return typ(api.TTuple, 0, parts...) }

func truth() api.Type { return typ(api.TBool, 0) }

func number() api.Type { return typ(api.TInt, 0) }

func many(n int, t api.Type) []api.Type { return slices.Repeat([]api.Type{t}, n) }

// wrongTypes is types that aren't right, by what is wrong with them; some have variables that no right type here has.
func wrongTypes() map[string]api.Type {
	return map[string]api.Type{
		"the zero one":                 {},
		"a kind below 1":               typ(-1, 0),
		"a kind above 5":               typ(6, 0),
		"a variable below 0":           v(-1),
		"a variable of 2^30":           v(1 << 30),
		"a variable far below":         v(math.MinInt),
		"a variable far above":         v(math.MaxInt),
		"a variable with a part":       typ(api.TVar, 0, v(77)),
		"int with a number":            typ(api.TInt, 1),
		"int with a part":              typ(api.TInt, 0, v(77)),
		"bool with a number":           typ(api.TBool, -1),
		"an arrow with a number":       typ(api.TArrow, 1, v(77), number()),
		"an arrow without parts":       typ(api.TArrow, 0),
		"an arrow of one part":         typ(api.TArrow, 0, v(77)),
		"an arrow of three parts":      typ(api.TArrow, 0, many(3, v(77))...),
		"a tuple without parts":        tuple(),
		"a tuple of one part":          tuple(v(77)),
		"a tuple of nine parts":        tuple(many(9, v(77))...),
		"a wrong part behind others":   tuple(v(77), arrow(v(78), number()), v(-1)),
		"a wrong part ahead of others": tuple(v(-1), v(77), arrow(v(78), number())),
		"a wrong part, further inside": arrow(v(77), tuple(truth(), arrow(tuple(v(78)), truth()))),
	}
}

// smallTypes is right types of at most two levels, and some of three.
func smallTypes() []api.Type {
	l := []api.Type{v(0), v(1), v(greatest), number(), truth()}
	for _, a := range slices.Clone(l) {
		for _, b := range []api.Type{v(0), v(2), truth()} {
			l = append(l, arrow(a, b), tuple(a, b), tuple(b, a, b))
		}
	}
	for _, a := range slices.Clone(l) {
		l = append(l, arrow(a, a), arrow(v(3), a), tuple(many(8, a)...))
	}
	return l
}

// told is what a graph tells of a node.
type told struct {
	kind  int
	parts []int
	name  int
	named bool
}

// all is what a graph tells of all of its nodes.
func all(g *graph.Graph) []told {
	var l []told
	for i := range g.Len() {
		name, named := g.Name(i)
		l = append(l, told{kind: g.Kind(i), parts: g.Parts(i), name: name, named: named})
	}
	return l
}

func sameTold(a, b []told) bool {
	return slices.EqualFunc(a, b, func(x, y told) bool {
		return x.kind == y.kind && slices.Equal(x.parts, y.parts) && x.name == y.name && x.named == y.named
	})
}

// adding is a second graph: the nodes behind some, with those that a type has more, and the type's one; by calls within calls.
func adding(l []told, t api.Type) ([]told, int) {
	if t.Kind == api.TVar {
		for i, x := range l {
			if x.named && x.name == t.N {
				return l, i
			}
		}
		return append(l, told{kind: api.TVar, name: t.N, named: true}), len(l)
	}
	var parts []int
	for _, part := range t.Parts {
		var i int
		l, i = adding(l, part)
		parts = append(parts, i)
	}
	return append(l, told{kind: t.Kind, parts: parts}), len(l)
}

// hold holds all that a graph tells of its nodes and variables against a second graph.
func hold(t *testing.T, what any, g *graph.Graph, want []told) {
	t.Helper()
	if got := all(g); !sameTold(got, want) {
		t.Fatalf("%v: nodes %v, want %v", what, got, want)
	}
	var vars []int
	for i, x := range want {
		if !x.named {
			continue
		}
		vars = append(vars, x.name)
		if got, ok := g.Var(x.name); got != i || !ok {
			t.Fatalf("%v: Var(%d): %d, %v, want %d", what, x.name, got, ok, i)
		}
	}
	slices.Sort(vars)
	if got := g.Vars(); !slices.Equal(got, vars) {
		t.Fatalf("%v: Vars %v, want %v", what, got, vars)
	}
}

// add adds a type that is right.
func add(t *testing.T, g *graph.Graph, x api.Type) int {
	t.Helper()
	i, e := g.Add(x)
	if e != api.OK || i < 0 || i >= g.Len() {
		t.Fatalf("Add(%s): %d, %v, of %d nodes", types.Print(x), i, e, g.Len())
	}
	return i
}

// wantType wants a node's type, however great it may be.
func wantType(t *testing.T, g *graph.Graph, i int, want api.Type) {
	t.Helper()
	got, e := g.Type(i, math.MaxInt)
	if e != api.OK || !types.Same(got, want) {
		t.Fatalf("Type(%d): %v, %v, want %v", i, got, e, want)
	}
}

// P11.1

func TestNew(t *testing.T) {
	g, other := graph.New(), graph.New()
	if g == nil || other == nil || g == other {
		t.Fatal("New gives no graph of its own")
	}
	add(t, other, arrow(v(0), v(1)))
	hold(t, "a new one", g, nil)
	if g.Len() != 0 || len(g.Vars()) != 0 {
		t.Errorf("Len %d, Vars %v", g.Len(), g.Vars())
	}
}

func TestAdd(t *testing.T) {
	g := graph.New()
	for _, c := range []struct {
		t    api.Type
		want int
		len  int
	}{
		{v(5), 0, 1},
		{v(5), 0, 1},
		{number(), 1, 2},
		{number(), 2, 3}, // one more: only variables have one node
		{arrow(v(7), v(5)), 4, 5},
		{tuple(v(5), arrow(number(), v(7)), truth(), v(8)), 9, 10},
		{v(7), 3, 10},
		{arrow(arrow(v(7), v(7)), arrow(v(8), v(9))), 13, 14},
	} {
		if i := add(t, g, c.t); i != c.want || g.Len() != c.len {
			t.Errorf("Add(%s): %d, Len %d, want %d, %d", types.Print(c.t), i, g.Len(), c.want, c.len)
		}
	}
	hold(t, "all of them", g, []told{
		{api.TVar, nil, 5, true},
		{api.TInt, nil, 0, false},
		{api.TInt, nil, 0, false},
		{api.TVar, nil, 7, true},
		{api.TArrow, []int{3, 0}, 0, false},
		{api.TInt, nil, 0, false},
		{api.TArrow, []int{5, 3}, 0, false},
		{api.TBool, nil, 0, false},
		{api.TVar, nil, 8, true},
		{api.TTuple, []int{0, 6, 7, 8}, 0, false},
		{api.TArrow, []int{3, 3}, 0, false},
		{api.TVar, nil, 9, true},
		{api.TArrow, []int{8, 11}, 0, false},
		{api.TArrow, []int{10, 12}, 0, false},
	})
}

// Each small type alone, and behind each other one.
func TestAddSmallTypes(t *testing.T) {
	for _, a := range smallTypes() {
		g := graph.New()
		want, wanted := adding(nil, a)
		if i := add(t, g, a); i != wanted {
			t.Fatalf("Add(%s): %d, want %d", types.Print(a), i, wanted)
		}
		hold(t, types.Print(a), g, want)
		for _, b := range smallTypes() {
			g := graph.New()
			add(t, g, a)
			both, wanted := adding(slices.Clone(want), b)
			if i := add(t, g, b); i != wanted {
				t.Fatalf("Add(%s) behind %s: %d, want %d", types.Print(b), types.Print(a), i, wanted)
			}
			hold(t, types.Print(a)+", "+types.Print(b), g, both)
		}
	}
}

func TestAddOneVariable(t *testing.T) {
	for _, n := range []int{0, 1, 26, greatest} {
		g := graph.New()
		if i := add(t, g, arrow(v(n), v(n))); i != 1 || g.Len() != 2 {
			t.Errorf("twice in a type: %d, Len %d", i, g.Len())
		}
		if i := add(t, g, tuple(number(), v(n))); i != 3 || g.Len() != 4 {
			t.Errorf("in two types: %d, Len %d", i, g.Len())
		}
		if i := add(t, g, v(n)); i != 0 || g.Len() != 4 {
			t.Errorf("alone, behind others: %d, Len %d", i, g.Len())
		}
		if parts := g.Parts(3); !slices.Equal(parts, []int{2, 0}) {
			t.Errorf("its node is no part of the second type: %v", parts)
		}
	}
}

func TestAddWrong(t *testing.T) {
	for name, wrong := range wrongTypes() {
		for _, first := range [][]api.Type{nil, {v(0)}, {arrow(v(0), v(1)), tuple(number(), v(2))}} {
			g := graph.New()
			var want []told
			for _, x := range first {
				add(t, g, x)
				want, _ = adding(want, x)
			}
			if i, e := g.Add(wrong); i != 0 || e != api.ErrArg {
				t.Errorf("%s: %d, %v", name, i, e)
			}
			hold(t, name, g, want)
			// What comes behind has the numbers that it has without the wrong one.
			next, wanted := adding(want, arrow(v(77), v(0)))
			if i := add(t, g, arrow(v(77), v(0))); i != wanted {
				t.Errorf("behind %s: %d, want %d", name, i, wanted)
			}
			hold(t, name, g, next)
		}
	}
}

func TestNodesThatArentThere(t *testing.T) {
	for _, x := range []api.Type{{}, v(3), tuple(v(3), v(4), number())} {
		g := graph.New()
		g.Add(x) // none of the zero type
		for _, i := range []int{-1, g.Len(), g.Len() + 1, math.MinInt, math.MaxInt, -g.Len(), 1 << 32} {
			if i == 0 && g.Len() > 0 {
				continue
			}
			if k := g.Kind(i); k != 0 {
				t.Errorf("of %d: Kind(%d): %d", g.Len(), i, k)
			}
			if parts := g.Parts(i); parts != nil {
				t.Errorf("of %d: Parts(%d): %v", g.Len(), i, parts)
			}
			if n, ok := g.Name(i); n != 0 || ok {
				t.Errorf("of %d: Name(%d): %d, %v", g.Len(), i, n, ok)
			}
			for _, most := range []int{-1, 0, 1, math.MaxInt} {
				if got, e := g.Type(i, most); e != api.ErrNone || !types.Same(got, api.Type{}) {
					t.Errorf("of %d: Type(%d, %d): %v, %v", g.Len(), i, most, got, e)
				}
			}
		}
	}
}

func TestVar(t *testing.T) {
	g := graph.New()
	add(t, g, tuple(v(4), number(), v(0), v(greatest)))
	for n, want := range map[int]int{4: 0, 0: 2, greatest: 3} {
		if i, ok := g.Var(n); i != want || !ok {
			t.Errorf("Var(%d): %d, %v, want %d", n, i, ok, want)
		}
	}
	for _, n := range []int{-1, 1, 2, 3, 5, greatest + 1, math.MinInt, math.MaxInt} {
		if i, ok := g.Var(n); i != 0 || ok {
			t.Errorf("Var(%d), which isn't there: %d, %v", n, i, ok)
		}
	}
}

func TestName(t *testing.T) {
	g := graph.New()
	add(t, g, tuple(v(4), number(), truth(), arrow(v(0), v(greatest))))
	for i, want := range []told{{name: 4, named: true}, {}, {}, {name: 0, named: true}, {name: greatest, named: true}, {}, {}} {
		if n, ok := g.Name(i); n != want.name || ok != want.named {
			t.Errorf("Name(%d): %d, %v", i, n, ok)
		}
	}
}

func TestVarsRise(t *testing.T) {
	const n = 1000
	g := graph.New()
	var want []int
	for i := range n {
		// 7 has no divisor in common with 1000, so that each is come to.
		add(t, g, arrow(v(i*7%n*3), v(i*7%n*3)))
		want = append(want, i*3)
	}
	add(t, g, number())
	if got := g.Vars(); !slices.Equal(got, want) {
		t.Errorf("Vars: %v", got)
	}
	if g.Len() != 2*n+1 {
		t.Errorf("Len: %d", g.Len())
	}
}

// P11.2

func TestTypeWithMost(t *testing.T) {
	g := graph.New()
	for _, x := range smallTypes() {
		i, size := add(t, g, x), types.Size(x)
		for _, most := range []int{size, size + 1, 1 << 40, math.MaxInt} {
			if got, e := g.Type(i, most); e != api.OK || !types.Same(got, x) {
				t.Fatalf("%s, most %d: %v, %v", types.Print(x), most, got, e)
			}
		}
		for _, most := range []int{size - 1, 0, -1, -size, math.MinInt} {
			if got, e := g.Type(i, most); e != api.ErrMany || !types.Same(got, api.Type{}) {
				t.Fatalf("%s, most %d: %v, %v", types.Print(x), most, got, e)
			}
		}
	}
}

// A type has more than its graph, as its variables have one node each.
func TestTypeFarGreaterThanItsGraph(t *testing.T) {
	g := graph.New()
	wide := tuple(many(8, tuple(many(8, v(0))...))...)
	x := arrow(wide, wide)
	i := add(t, g, x)
	size := 1 + 2*(1+8*9)
	if g.Len() != 2+2*9 || types.Size(x) != size {
		t.Fatalf("Len %d, size %d", g.Len(), types.Size(x))
	}
	if got, e := g.Type(i, size); e != api.OK || !types.Same(got, x) {
		t.Errorf("most just its size: %v", e)
	}
	for _, most := range []int{size - 1, g.Len(), g.Len() + 1} {
		if got, e := g.Type(i, most); e != api.ErrMany || !types.Same(got, api.Type{}) {
			t.Errorf("most %d: %v", most, e)
		}
	}
}

func TestNilGraph(t *testing.T) {
	var g *graph.Graph
	for name, x := range map[string]api.Type{"right": arrow(v(0), v(1)), "the zero one": {}, "a wrong one": v(-1)} {
		if i, e := g.Add(x); i != 0 || e != api.ErrState {
			t.Errorf("Add of %s: %d, %v", name, i, e)
		}
	}
	for _, i := range []int{0, 1, -1, math.MinInt, math.MaxInt} {
		if k := g.Kind(i); k != 0 {
			t.Errorf("Kind(%d): %d", i, k)
		}
		if parts := g.Parts(i); parts != nil {
			t.Errorf("Parts(%d): %v", i, parts)
		}
		if n, ok := g.Var(i); n != 0 || ok {
			t.Errorf("Var(%d): %d, %v", i, n, ok)
		}
		if n, ok := g.Name(i); n != 0 || ok {
			t.Errorf("Name(%d): %d, %v", i, n, ok)
		}
		for _, most := range []int{-1, 0, 1, math.MaxInt} {
			if x, e := g.Type(i, most); e != api.ErrState || !types.Same(x, api.Type{}) {
				t.Errorf("Type(%d, %d): %v, %v", i, most, x, e)
			}
		}
	}
	if g.Vars() != nil || g.Len() != 0 {
		t.Errorf("Vars %v, Len %d", g.Vars(), g.Len())
	}
}

// P11.3

func TestToldAsAdded(t *testing.T) {
	g := graph.New()
	var nodes []int
	for _, x := range smallTypes() {
		nodes = append(nodes, add(t, g, x))
	}
	for i, x := range smallTypes() {
		wantType(t, g, nodes[i], x)
	}
	// The other way round, among wrong ones.
	h := graph.New()
	nodes = nil
	for _, x := range slices.Backward(smallTypes()) {
		nodes = append(nodes, add(t, h, x))
		h.Add(arrow(x, v(-1)))
	}
	for i, x := range smallTypes() {
		wantType(t, h, nodes[len(nodes)-1-i], x)
	}
}

// Each node's type is made of those of its parts, which have lesser numbers.
func TestNodesAreTypes(t *testing.T) {
	g := graph.New()
	for _, x := range smallTypes() {
		add(t, g, x)
	}
	for i := range g.Len() {
		x := api.Type{Kind: g.Kind(i)}
		if x.Kind == api.TVar {
			x.N, _ = g.Name(i)
		}
		for _, part := range g.Parts(i) {
			if part >= i {
				t.Fatalf("node %d has the part %d", i, part)
			}
			inner, _ := g.Type(part, math.MaxInt)
			x.Parts = append(x.Parts, inner)
		}
		if !types.Right(x) {
			t.Fatalf("node %d: %v", i, x)
		}
		wantType(t, g, i, x)
	}
}

func TestDeepTypes(t *testing.T) {
	defer debug.SetMaxStack(debug.SetMaxStack(1 << 20))
	left, right, wrong := v(0), v(0), v(-1)
	for i := range deep {
		left, right, wrong = arrow(left, v(i%5)), arrow(v(i%3), right), tuple(number(), wrong)
	}
	g := graph.New()
	i, j := add(t, g, left), add(t, g, right)
	if g.Len() != 5+2*deep || j != g.Len()-1 || g.Kind(i) != api.TArrow {
		t.Errorf("Len %d", g.Len())
	}
	wantType(t, g, i, left)
	wantType(t, g, j, right)
	if _, e := g.Type(i, 2*deep); e != api.ErrMany {
		t.Errorf("most one below its size: %v", e)
	}
	if _, e := g.Add(wrong); e != api.ErrArg || g.Len() != 5+2*deep {
		t.Errorf("a deep one that isn't right: %v, Len %d", e, g.Len())
	}
}

// More nodes than a forest (9) has elements.
func TestManyNodes(t *testing.T) {
	const n = 1<<20 + 3
	g := graph.New()
	x := v(0)
	for i := range n {
		x = arrow(v(i+1), x)
	}
	i := add(t, g, x)
	if g.Len() != 2*n+1 || i != 2*n || len(g.Vars()) != n+1 {
		t.Fatalf("Len %d, %d", g.Len(), i)
	}
	wantType(t, g, i, x)
}

// rules 4 and 6

func TestNothingIsShared(t *testing.T) {
	x := arrow(tuple(v(1), number()), arrow(v(0), v(1)))
	want := types.Copy(x)
	g := graph.New()
	i := add(t, g, x)
	nodes, _ := adding(nil, want)
	x.Parts[0].Parts[0].N = 9
	x.Parts[1] = number()
	hold(t, "what was handed in is written into", g, nodes)
	for range 2 {
		got, e := g.Type(i, 8)
		if e != api.OK || !types.Same(got, want) {
			t.Fatalf("Type: %v, %v", got, e)
		}
		got.Parts[0].Parts[0], got.Parts[1].Parts[1].N = number(), 5
		for j := range g.Len() {
			parts := g.Parts(j)
			for k := range parts[:cap(parts)] {
				parts[:cap(parts)][k] = 77
			}
		}
		for k, vars := 0, g.Vars(); k < cap(vars); k++ {
			vars[:cap(vars)][k] = 77
		}
		hold(t, "what was answered is written into", g, nodes)
	}
}

func TestExampleOfTheDocument(t *testing.T) {
	g := graph.New()
	if i := add(t, g, arrow(v(0), v(0))); i != 1 || g.Len() != 2 || g.Kind(0) != api.TVar || g.Kind(1) != api.TArrow || !slices.Equal(g.Parts(1), []int{0, 0}) {
		t.Errorf("%d, of %v", i, all(g))
	}
}
