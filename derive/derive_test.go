package derive_test

import (
	"maps"
	"math"
	"math/rand/v2"
	"runtime/debug"
	"slices"
	"testing"

	"pangram/api"
	"pangram/derive"
	"pangram/infer"
	"pangram/parse"
	"pangram/pretty"
	"pangram/scheme"
	"pangram/scope"
	"pangram/signature"
	"pangram/subst"
	"pangram/term"
	"pangram/types"
)

const deep = 1 << 13 // levels: calls within calls as deep would take more than the stack that TestDeepTerms gives

func variable(name string) api.Term { return api.Term{Kind: api.Var, Name: name} }

func num(n int) api.Term { return api.Term{Kind: api.Int, N: n} }

func node(kind int, parts ...api.Term) api.Term { return api.Term{Kind: kind, Parts: parts} }

func named(kind int, name string, parts ...api.Term) api.Term {
	return api.Term{Kind: kind, Name: name, Parts: parts}
}

func ann(x api.Term, t api.Type) api.Term {
	return api.Term{Kind: api.Ann, Type: t, Parts: []api.Term{x}}
}

func typ(kind, n int, parts ...api.Type) api.Type {
	return api.Type{Kind: kind, N: n, Parts: parts}
}

func v(n int) api.Type { return typ(api.TVar, n) }

func number() api.Type { return typ(api.TInt, 0) }

func truth() api.Type { return typ(api.TBool, 0) }

func arrow(a, b api.Type) api.Type { return typ(api.TArrow, 0, a, b) }

func tuple(parts ...api.Type) api.Type { return typ(api.TTuple, 0, parts...) }

// read is the term of a text.
func read(t *testing.T, s string) api.Term {
	t.Helper()
	x, _, e := parse.Term(s, math.MaxInt)
	if e != api.OK {
		t.Fatalf("no term: %q", s)
	}
	return x
}

// typed is the types of texts.
func typed(t *testing.T, l ...string) []api.Type {
	t.Helper()
	var all []api.Type
	for _, s := range l {
		u, e := signature.Parse(s)
		if e != api.OK {
			t.Fatalf("no type: %q", s)
		}
		all = append(all, u)
	}
	return all
}

// told is types as texts.
func told(l []api.Type) []string {
	var texts []string
	for _, u := range l {
		texts = append(texts, types.Print(u))
	}
	return texts
}

func sameTypes(a, b []api.Type) bool {
	return slices.EqualFunc(a, b, types.Same)
}

// copied is the same types, in memory of their own.
func copied(l []api.Type) []api.Type {
	var same []api.Type
	for _, u := range l {
		same = append(same, types.Copy(u))
	}
	return same
}

// right is the answer that there is no fault.
const right = -1

// wantFault wants a fault, or none, of types that are as many as the terms, and right.
func wantFault(t *testing.T, x api.Term, l []api.Type, want int) {
	t.Helper()
	if term.Size(x) != len(l) {
		t.Fatalf("%d types of %s", len(l), pretty.Print(x))
	}
	number, wrong := derive.Fault(x, l)
	if wrong != (want != right) || number != max(want, 0) {
		t.Fatalf("Fault(%s, %q) = %d, %v, want %d", pretty.Print(x), told(l), number, wrong, want)
	}
	if derive.Check(x, l) != (want == right) {
		t.Fatalf("Check(%s, %q): not %v", pretty.Print(x), told(l), want == right)
	}
}

// wantNone wants of a term and types that there are neither a derivation nor a fault.
func wantNone(t *testing.T, what string, x api.Term, l []api.Type) {
	t.Helper()
	if number, wrong := derive.Fault(x, l); number != 0 || wrong {
		t.Errorf("%s: Fault: %d, %v", what, number, wrong)
	}
	if derive.Check(x, l) {
		t.Errorf("%s: Check", what)
	}
}

// Rules, a second way: by calls within calls, and by what stands around as it is.

// known is what a name means.
type known struct {
	one    bool // its type is this one, not an instance
	own    api.Type
	around []api.Type
}

// second judges a term by types.
type second struct {
	l     []api.Type
	next  int
	fault int
}

// judge judges a term, and gives its type, and whether it and its terms are as they ought to be.
func (s *second) judge(x api.Term, around []api.Type, names map[string]known) api.Type {
	i := s.next
	s.next++
	t := s.l[i]
	part := func(n int, around []api.Type, names map[string]known) api.Type {
		return s.judge(x.Parts[n], around, names)
	}
	with := func(k known) map[string]known {
		inside := maps.Clone(names)
		inside[x.Name] = k
		return inside
	}
	holds := false
	switch x.Kind {
	case api.Int:
		holds = types.Print(t) == "int"
	case api.Bool:
		holds = types.Print(t) == "bool"
	case api.Var:
		k := names[x.Name]
		holds = k.one && types.Same(t, k.own) || !k.one && isInstance(k.own, t, k.around)
	case api.Lam:
		binder := typ(0, 0)
		if t.Kind == api.TArrow {
			binder = t.Parts[0]
		}
		p := part(0, append(slices.Clone(around), binder), with(known{one: true, own: binder}))
		holds = types.Same(t, arrow(binder, p))
	case api.Let:
		p := part(0, around, names)
		holds = types.Same(t, part(1, around, with(known{own: p, around: around})))
	case api.Rec:
		p := s.l[s.next]
		part(0, append(slices.Clone(around), p), with(known{one: true, own: p}))
		holds = types.Same(t, part(1, around, with(known{own: p, around: around})))
	case api.Ann:
		holds = types.Same(part(0, around, names), x.Type) && types.Same(t, x.Type)
	default:
		var l []api.Type
		for n := range x.Parts {
			l = append(l, part(n, around, names))
		}
		holds = x.Kind == api.App && types.Same(l[0], arrow(l[1], t)) ||
			x.Kind == api.If && types.Same(tuple(l...), tuple(truth(), t, t)) ||
			x.Kind == api.Tuple && types.Same(t, tuple(l...))
	}
	if !holds && (s.fault == right || i < s.fault) {
		s.fault = i
	}
	return t
}

// isInstance tells whether a type is one of another one, for all of whose variables that stand nowhere around it stands.
func isInstance(general, t api.Type, around []api.Type) bool {
	becomes := map[int]api.Type{}
	for _, u := range around {
		for _, n := range types.Vars(u) {
			becomes[n] = v(n)
		}
	}
	var match func(general, t api.Type) bool
	match = func(general, t api.Type) bool {
		if general.Kind == api.TVar {
			u, ok := becomes[general.N]
			if !ok {
				becomes[general.N] = t
			}
			return !ok || types.Same(u, t)
		}
		return general.Kind == t.Kind && slices.EqualFunc(general.Parts, t.Parts, match)
	}
	return match(general, t)
}

// secondly is the first term, of a right closed one, whose rule doesn't hold.
func secondly(x api.Term, l []api.Type) int {
	s := second{l: l, fault: right}
	s.judge(x, nil, map[string]known{})
	return s.fault
}

// P22.1

func TestFault(t *testing.T) {
	for _, c := range []struct {
		text string
		l    []string
		want int
	}{
		{"1", []string{"int"}, right},
		{"1", []string{"bool"}, 0},
		{"1", []string{"'a"}, 0},
		{"1", []string{"int -> int"}, 0},
		{"true", []string{"bool"}, right},
		{"true", []string{"int"}, 0},
		{"true", []string{"'a"}, 0},
		// what means a Lam
		{"fun x -> x", []string{"int -> int", "int"}, right},
		{"fun x -> x", []string{"'a -> 'a", "'a"}, right},
		{"fun x -> x", []string{"'b7 -> 'b7", "'b7"}, right},
		{"fun x -> x", []string{"('a -> int) -> 'a -> int", "'a -> int"}, right},
		{"fun x -> x", []string{"int -> bool", "bool"}, 1},
		{"fun x -> x", []string{"'a -> 'b", "'b"}, 1},
		{"fun x -> x", []string{"'a -> int", "int"}, 1},
		{"fun x -> x", []string{"int -> bool", "int"}, 0},
		{"fun x -> x", []string{"int", "int"}, 0},
		{"fun x -> x", []string{"'a", "'a"}, 0},
		{"fun x -> x", []string{"(int * int)", "int"}, 0},
		{"fun x -> fun y -> x", []string{"int -> bool -> int", "bool -> int", "int"}, right},
		{"fun x -> fun y -> y", []string{"int -> bool -> bool", "bool -> bool", "bool"}, right},
		{"fun x -> fun y -> x", []string{"int -> bool -> bool", "bool -> bool", "bool"}, 2},
		{"fun x -> fun x -> x", []string{"int -> bool -> bool", "bool -> bool", "bool"}, right},
		{"fun x -> fun x -> x", []string{"int -> bool -> int", "bool -> int", "int"}, 2},
		{"fun x -> (fun x -> x, x)", []string{"int -> ((bool -> bool) * int)", "((bool -> bool) * int)", "bool -> bool", "bool", "int"}, right},
		{"fun x -> (fun x -> x, x)", []string{"int -> ((bool -> bool) * bool)", "((bool -> bool) * bool)", "bool -> bool", "bool", "bool"}, 4},
		// applications
		{"(fun x -> x) 1", []string{"int", "int -> int", "int", "int"}, right},
		{"(fun x -> x) 1", []string{"bool", "int -> int", "int", "int"}, 0},
		{"(fun x -> x) 1", []string{"bool", "bool -> bool", "bool", "int"}, 0},
		{"(fun x -> x) 1", []string{"bool", "bool -> bool", "bool", "bool"}, 3},
		{"(fun x -> x) 1", []string{"bool", "int -> bool", "bool", "int"}, 2},
		{"1 2", []string{"int", "int", "int"}, 0},
		{"1 2", []string{"int", "int -> int", "int"}, 1},
		{"1 2", []string{"int", "(int * int)", "int"}, 0},
		// If, tuples, annotations
		{"if true then 1 else 2", []string{"int", "bool", "int", "int"}, right},
		{"if true then 1 else 2", []string{"int", "int", "int", "int"}, 0},
		{"if true then 1 else 2", []string{"int", "bool", "bool", "int"}, 0},
		{"if true then 1 else 2", []string{"int", "bool", "int", "bool"}, 0},
		{"if true then 1 else 2", []string{"bool", "bool", "bool", "bool"}, 2},
		{"if 1 then 1 else 2", []string{"int", "bool", "int", "int"}, 1},
		{"if true then 1 else true", []string{"int", "bool", "int", "int"}, 3},
		{"(1, true)", []string{"(int * bool)", "int", "bool"}, right},
		{"(1, true)", []string{"(bool * int)", "int", "bool"}, 0},
		{"(1, true)", []string{"(int * int)", "int", "bool"}, 0},
		{"(1, true)", []string{"(int * bool * int)", "int", "bool"}, 0},
		{"(1, true)", []string{"int -> bool", "int", "bool"}, 0},
		{"(1, true)", []string{"int", "int", "bool"}, 0},
		{"(1, true)", []string{"(int * int)", "int", "int"}, 2},
		{"(1, 2, 3)", []string{"(int * int)", "int", "int", "int"}, 0},
		{"(1 : int)", []string{"int", "int"}, right},
		{"(1 : int)", []string{"bool", "int"}, 0},
		{"(1 : int)", []string{"int", "bool"}, 0},
		{"(1 : bool)", []string{"bool", "int"}, 0},
		{"(1 : bool)", []string{"bool", "bool"}, 1},
		{"(fun x -> x : int -> int)", []string{"int -> int", "int -> int", "int"}, right},
		{"(fun x -> x : int -> int)", []string{"bool -> bool", "bool -> bool", "bool"}, 0},
		{"(fun x -> x : int -> int)", []string{"int -> int", "'a -> 'a", "'a"}, 0},
		{"(fun x -> x : int -> bool)", []string{"int -> bool", "int -> bool", "bool"}, 2},
		// the first of several
		{"(1, true, 2)", []string{"(bool * int * bool)", "bool", "int", "bool"}, 1},
		{"(1, (true, 2))", []string{"(int * (int * bool))", "int", "(int * bool)", "int", "bool"}, 3},
		{"(1 2, 3)", []string{"(int * bool)", "int", "bool", "bool", "bool"}, 1},
		{"fun x -> (1, x)", []string{"int -> bool", "bool", "bool", "bool"}, 1},
		{"fun x -> (x, 1)", []string{"int -> (bool * bool)", "(bool * bool)", "bool", "bool"}, 2},
	} {
		wantFault(t, read(t, c.text), typed(t, c.l...), c.want)
		if got := secondly(read(t, c.text), typed(t, c.l...)); got != c.want {
			t.Errorf("a second way: %q, %q: %d, want %d", c.text, c.l, got, c.want)
		}
	}
}

func TestFaultOfLet(t *testing.T) {
	twice := "let i = fun x -> x in (i 1, i true)"
	pair := "(int * bool)"
	around := "fun x -> let i = fun y -> y in i 1"
	rec := "let rec f = let g = f in (fun u -> f) g in f"
	for _, c := range []struct {
		text string
		l    []string
		want int
	}{
		{"let a = 1 in a", []string{"int", "int", "int"}, right},
		{"let a = 1 in a", []string{"int", "int", "bool"}, 0},
		{"let a = 1 in a", []string{"bool", "int", "bool"}, 2},
		{"let a = 1 in a", []string{"bool", "bool", "bool"}, 1},
		{"let a = 1 in 2", []string{"int", "int", "int"}, right},
		{"let a = 1 in 2", []string{"int", "bool", "int"}, 1},
		{"let a = 1 in 2", []string{"bool", "int", "int"}, 0},
		{"let a = 1 in 2", []string{"int", "int", "bool"}, 0},
		// of an instance, of the scheme itself, of others
		{twice, []string{pair, "'a -> 'a", "'a", pair, "int", "int -> int", "int", "bool", "bool -> bool", "bool"}, right},
		{twice, []string{pair, "'c -> 'c", "'c", pair, "int", "int -> int", "int", "bool", "bool -> bool", "bool"}, right},
		{twice, []string{pair, "int -> int", "int", pair, "int", "int -> int", "int", "bool", "bool -> bool", "bool"}, 8},
		{twice, []string{pair, "bool -> bool", "bool", pair, "int", "int -> int", "int", "bool", "bool -> bool", "bool"}, 5},
		{twice, []string{pair, "'a -> 'b", "'b", pair, "int", "int -> int", "int", "bool", "bool -> bool", "bool"}, 2},
		{twice, []string{pair, "'a -> 'a", "'a", pair, "int", "int -> int", "int", "bool", "int -> bool", "bool"}, 7},
		{"let i = fun x -> x in i", []string{"'a -> 'a", "'a -> 'a", "'a", "'a -> 'a"}, right},
		{"let i = fun x -> x in i", []string{"'b -> 'b", "'a -> 'a", "'a", "'b -> 'b"}, right},
		{"let i = fun x -> x in i", []string{"int -> int", "'a -> 'a", "'a", "int -> int"}, right},
		{"let i = fun x -> x in i", []string{"int -> int", "int -> int", "int", "int -> int"}, right},
		{"let i = fun x -> x in i", []string{"'a -> 'a", "int -> int", "int", "'a -> 'a"}, 3},
		{"let i = fun x -> x in i", []string{"int -> bool", "'a -> 'a", "'a", "int -> bool"}, 3},
		{"let i = fun x -> x in i", []string{"int", "'a -> 'a", "'a", "int"}, 3},
		// of variables that stand around, and of those that don't
		{"fun x -> let y = x in y", []string{"'a -> 'a", "'a", "'a", "'a"}, right},
		{"fun x -> let y = x in y", []string{"int -> int", "int", "int", "int"}, right},
		{"fun x -> let y = x in y", []string{"'a -> 'b", "'b", "'a", "'b"}, 3},
		{"fun x -> let y = x in y", []string{"'a -> int", "int", "'a", "int"}, 3},
		{"fun x -> let y = x in y", []string{"'a -> int", "int", "int", "int"}, 2},
		{around, []string{"'a -> int", "int", "'b -> 'b", "'b", "int", "int -> int", "int"}, right},
		{around, []string{"'a -> int", "int", "'a -> 'a", "'a", "int", "int -> int", "int"}, 5},
		{around, []string{"('b -> 'a) -> int", "int", "'a -> 'a", "'a", "int", "int -> int", "int"}, 5},
		{around, []string{"int -> int", "int", "'a -> 'a", "'a", "int", "int -> int", "int"}, right},
		{"fun x -> let k = fun y -> (x, y) in k 1", []string{"'a -> ('a * int)", "('a * int)", "'b -> ('a * 'b)", "('a * 'b)", "'a", "'b", "('a * int)", "int -> ('a * int)", "int"}, right},
		{"fun x -> let k = fun y -> (x, y) in k 1", []string{"'a -> (int * int)", "(int * int)", "'b -> ('a * 'b)", "('a * 'b)", "'a", "'b", "(int * int)", "int -> (int * int)", "int"}, 7},
		{"fun x -> let k = fun y -> (x, y) in k 1", []string{"'a -> ('b * int)", "('b * int)", "'b -> ('a * 'b)", "('a * 'b)", "'a", "'b", "('b * int)", "int -> ('b * int)", "int"}, 7},
		// a Lam in the Let's own parts isn't around it, nor is one beside it, nor a Let
		{"let i = fun x -> x in fun y -> i", []string{"'a -> 'b -> 'b", "'a -> 'a", "'a", "'a -> 'b -> 'b", "'b -> 'b"}, right},
		{"let i = fun x -> x in fun y -> i 1", []string{"'a -> int", "'a -> 'a", "'a", "'a -> int", "int", "int -> int", "int"}, right},
		{"(fun y -> y, let i = fun x -> x in i 1)", []string{"(('a -> 'a) * int)", "'a -> 'a", "'a", "int", "'a -> 'a", "'a", "int", "int -> int", "int"}, right},
		{"let j = fun y -> y in let i = fun x -> x in i 1", []string{"int", "'a -> 'a", "'a", "int", "'a -> 'a", "'a", "int", "int -> int", "int"}, right},
		// a binder of the name of another one's around it
		{"let x = 1 in let x = true in x", []string{"bool", "int", "bool", "bool", "bool"}, right},
		{"let x = 1 in let x = true in x", []string{"int", "int", "int", "bool", "int"}, 4},
		{"let x = 1 in let x = (x, x) in x", []string{"(int * int)", "int", "(int * int)", "(int * int)", "int", "int", "(int * int)"}, right},
		// Rec: its type alone within its first part, an instance behind it
		{"let rec f = fun x -> f x in f 1", []string{"bool", "'a -> 'b", "'b", "'a -> 'b", "'a", "bool", "int -> bool", "int"}, right},
		{"let rec f = fun x -> f x in f 1", []string{"bool", "'a -> 'b", "'b", "'c -> 'b", "'c", "bool", "int -> bool", "int"}, 3},
		{"let rec f = fun x -> f x in f 1", []string{"bool", "int -> bool", "bool", "int -> bool", "int", "bool", "int -> bool", "int"}, right},
		{"let rec f = fun x -> f x in f 1", []string{"bool", "int -> int", "int", "int -> int", "int", "bool", "int -> bool", "int"}, 6},
		{"let rec f = fun x -> f x in f 1", []string{"int", "int -> bool", "bool", "int -> bool", "int", "bool", "int -> bool", "int"}, 0},
		{"let rec f = f in f", []string{"int", "'a", "int"}, right},
		{"let rec f = f in f", []string{"int", "int", "int"}, right},
		{"let rec f = f in f", []string{"int", "bool", "int"}, 2},
		{"let rec f = f in f", []string{"int", "int", "'a"}, 0},
		{"let rec f = f in f", []string{"'a", "int", "'a"}, 2},
		{"let rec f = (f : int) in f", []string{"int", "int", "int", "int"}, right},
		{"let rec f = (f : int) in f", []string{"int", "int", "'a", "int"}, 1},
		// which stands around within its first part, not behind it
		{rec, []string{"int", "'a", "'a", "'a", "'a -> 'a", "'a", "'a", "int"}, right},
		{rec, []string{"int", "'a", "'a", "'a", "'b -> 'a", "'a", "'b", "int"}, 6},
		{rec, []string{"int", "'a", "'a", "'a", "int -> 'a", "'a", "int", "int"}, 6},
		{"let rec f = fun x -> x in let g = f in g 1", []string{"int", "'a -> 'a", "'a", "int", "'a -> 'a", "int", "int -> int", "int"}, right},
		{"fun y -> let rec f = y in f", []string{"'a -> 'a", "'a", "'a", "'a"}, right},
		{"fun y -> let rec f = y in f", []string{"'a -> 'b", "'b", "'a", "'b"}, 3},
	} {
		wantFault(t, read(t, c.text), typed(t, c.l...), c.want)
		if got := secondly(read(t, c.text), typed(t, c.l...)); got != c.want {
			t.Errorf("a second way: %q, %q: %d, want %d", c.text, c.l, got, c.want)
		}
	}
}

// lists is all lists of so many of some types.
func lists(n int, some []api.Type, visit func(l []api.Type)) {
	var fill func(l []api.Type)
	fill = func(l []api.Type) {
		if len(l) == n {
			visit(l)
			return
		}
		for _, u := range some {
			fill(append(l, u))
		}
	}
	fill(make([]api.Type, 0, n))
}

// termsOf is all closed terms of so many terms, of two names, without If.
func termsOf(n int, names ...string) []api.Term {
	if n == 1 {
		l := []api.Term{num(1)}
		for _, name := range []string{"x", "y"} {
			if slices.Contains(names, name) {
				l = append(l, variable(name))
			}
		}
		return l
	}
	var l []api.Term
	for _, name := range []string{"x", "y"} {
		with := append(slices.Clone(names), name)
		for _, a := range termsOf(n-1, with...) {
			l = append(l, named(api.Lam, name, a))
		}
		for first := 1; first < n-1; first++ {
			for _, b := range termsOf(n-1-first, with...) {
				for _, a := range termsOf(first, names...) {
					l = append(l, named(api.Let, name, a, b))
				}
				for _, a := range termsOf(first, with...) {
					l = append(l, named(api.Rec, name, a, b))
				}
			}
		}
	}
	for first := 1; first < n-1; first++ {
		for _, a := range termsOf(first, names...) {
			for _, b := range termsOf(n-1-first, names...) {
				l = append(l, node(api.App, a, b), node(api.Tuple, a, b))
			}
		}
	}
	return l
}

// Whatever types small terms have, the rules are judged likewise a second way; and what has a derivation has a type, of which the derivation's first one is an instance.
func TestSmallTerms(t *testing.T) {
	some := []api.Type{v(0), v(1), number(), arrow(v(0), v(0)), arrow(v(1), v(0)), arrow(number(), number()), arrow(v(0), arrow(v(0), v(0))), tuple(number(), v(0)), arrow(arrow(v(0), v(0)), number())}
	for n := 1; n < 5; n++ {
		derived := 0
		for _, x := range termsOf(n) {
			typable, found := infer.Typable(x), 0
			lists(n, some[:len(some)-n+1], func(l []api.Type) {
				want := secondly(x, l)
				wantFault(t, x, l, want)
				if want != right {
					return
				}
				found++
				if !typable || !infer.Fits(x, l[0]) || !derive.Root(x, l[0]) {
					t.Fatalf("%s has the derivation %q", pretty.Print(x), told(l))
				}
			})
			derived += min(found, 1)
		}
		if derived < []int{0, 1, 2, 10, 60}[n] {
			t.Errorf("%d terms of %d have a derivation", derived, n)
		}
	}
}

func TestOfTypesThatArentRight(t *testing.T) {
	x := read(t, "let i = fun x -> x in i 1")
	l := typed(t, "int", "'a -> 'a", "'a", "int", "int -> int", "int")
	wantFault(t, x, l, right)
	for what, u := range map[string]api.Type{
		"the zero one":          {},
		"a kind above 5":        typ(6, 0),
		"a variable below 0":    v(-1),
		"a variable above":      v(api.MaxVar),
		"a variable with parts": typ(api.TVar, 0, number()),
		"an int of a number":    typ(api.TInt, 1),
		"a bool with parts":     typ(api.TBool, 0, truth()),
		"an arrow of a number":  typ(api.TArrow, 1, number(), number()),
		"an arrow of one":       typ(api.TArrow, 0, number()),
		"an arrow of none":      typ(api.TArrow, 0),
		"a tuple of one":        tuple(number()),
		"a tuple of nine":       tuple(slices.Repeat([]api.Type{number()}, 9)...),
	} {
		for i := range l {
			for _, wrong := range []api.Type{u, arrow(u, number()), arrow(number(), u), tuple(number(), u)} {
				other := slices.Clone(l)
				other[i] = wrong
				wantNone(t, what, x, other)
				// behind a rule that doesn't hold, and ahead of one
				for j := range other {
					if j != i {
						both := slices.Clone(other)
						both[j] = tuple(truth(), truth())
						wantNone(t, what+", and a fault", x, both)
					}
				}
			}
			if derive.Root(x, u) {
				t.Errorf("%s: Root", what)
			}
		}
	}
}

func TestOfOtherNumbersOfTypes(t *testing.T) {
	for _, text := range []string{"1", "fun x -> x", "let i = fun x -> x in i 1", "(1, 2, 3)", "let rec f = fun x -> f x in f"} {
		x := read(t, text)
		l, _ := derive.Of(x)
		wantFault(t, x, l, right)
		for n := range len(l) {
			wantNone(t, text, x, l[:n])
			wantNone(t, text, x, append(slices.Clone(l), l[:n+1]...))
		}
		wantNone(t, text, x, nil)
		wantNone(t, text, x, []api.Type{})
	}
}

func TestOfTermsThatArentClosedOrRight(t *testing.T) {
	for _, text := range []string{"x", "fun x -> y", "let x = x in x", "(fun x -> x) x", "1 x", "let rec f = f in g", "(x : int)"} {
		x := read(t, text)
		l := slices.Repeat([]api.Type{number()}, term.Size(x))
		wantNone(t, text, x, l)
		wantNone(t, text, x, nil)
		if got, e := derive.Of(x); e != api.ErrScope || len(got) != 0 {
			t.Errorf("Of(%q): %v, %v", text, got, e)
		}
		if derive.Root(x, number()) || derive.Root(x, v(0)) {
			t.Errorf("Root of %q", text)
		}
	}
	one := num(1)
	for what, x := range map[string]api.Term{
		"the zero one":                  {},
		"a kind above 10":               named(11, "x", one),
		"no name":                       named(api.Lam, "", one),
		"a word as name":                named(api.Let, "in", one, one),
		"a variable below 0":            named(api.Lam, "x", api.Term{Kind: api.Var, Name: "x", N: -1}),
		"a number of ten digits":        num(1_000_000_000),
		"a truth of 2":                  {Kind: api.Bool, N: 2},
		"a function of two":             named(api.Lam, "x", one, one),
		"an application of one":         node(api.App, one),
		"if of two":                     node(api.If, one, one),
		"a tuple of one":                node(api.Tuple, one),
		"a tuple of nine":               node(api.Tuple, slices.Repeat([]api.Term{one}, 9)...),
		"an annotation with a variable": ann(one, v(0)),
		"an annotation of no type":      node(api.Ann, one),
		"let rec of one":                named(api.Rec, "x", one),
		"a free name ahead of it":       node(api.App, variable("x"), node(api.Tuple)),
	} {
		l := slices.Repeat([]api.Type{number()}, term.Size(x))
		wantNone(t, what, x, l)
		wantNone(t, what, x, nil)
		if got, e := derive.Of(x); e != api.ErrArg || len(got) != 0 {
			t.Errorf("Of, %s: %v, %v", what, got, e)
		}
		if derive.Root(x, number()) || derive.Root(x, v(0)) {
			t.Errorf("Root, %s", what)
		}
	}
}

// P22.2

func TestOf(t *testing.T) {
	for text, want := range map[string][]string{
		"1":                         {"int"},
		"fun x -> x":                {"'a -> 'a", "'a"},
		"(fun x -> x : int -> int)": {"int -> int", "int -> int", "int"},
		"let i = fun x -> x in (i 1, i)": {
			"(int * ('a -> 'a))", "'b -> 'b", "'b", "(int * ('a -> 'a))", "int", "int -> int", "int", "'a -> 'a"},
		"let rec f = fun x -> f x in f 1": {"'a", "'b -> 'c", "'c", "'b -> 'c", "'b", "'a", "int -> 'a", "int"},
	} {
		x := read(t, text)
		got, e := derive.Of(x)
		if e != api.OK || !slices.Equal(told(got), want) {
			t.Errorf("Of(%q) = %q, %v, want %q", text, told(got), e, want)
		}
		wantFault(t, x, got, right)
	}
	half := number()
	for range 10 {
		half = tuple(half, half)
	}
	great := tuple(half, half, number())
	loop := read(t, "let rec f = f in f")
	for what, c := range map[string]struct {
		x    api.Term
		want api.Errno
	}{
		"no type":                        {read(t, "fun x -> x x"), api.ErrClash},
		"no type, doubled":               {node(api.App, num(1), ann(loop, tuple(great, great))), api.ErrClash},
		"a free name ahead of no type":   {read(t, "x (1 1)"), api.ErrScope},
		"a type of 4096":                 {ann(loop, great), api.OK},
		"a greater one":                  {ann(loop, arrow(half, arrow(half, number()))), api.ErrMany},
		"a greater one that isn't meant": {named(api.Let, "a", ann(loop, tuple(great, number())), num(1)), api.ErrMany},
		"one of 4096 that isn't meant":   {named(api.Let, "a", ann(loop, great), num(1)), api.OK},
	} {
		l, e := derive.Of(c.x)
		if e != c.want || e != api.OK && len(l) != 0 {
			t.Errorf("%s: Of: %d, %v, want %v", what, len(l), e, c.want)
		}
		if e == api.OK {
			wantFault(t, c.x, l, right)
		}
	}
}

func TestRoot(t *testing.T) {
	for text, c := range map[string]struct{ has, not []string }{
		"1":                             {[]string{"int"}, []string{"bool", "'a"}},
		"fun x -> x":                    {[]string{"'a -> 'a", "'c -> 'c", "int -> int", "('a -> 'b) -> 'a -> 'b"}, []string{"'a", "'a -> 'b", "int -> bool", "('a * 'a)"}},
		"let rec f = fun x -> f x in f": {[]string{"'a -> 'b", "'b -> 'a", "int -> bool", "'a -> 'a"}, []string{"int", "(int * int)"}},
		"fun x -> let y = x in y":       {[]string{"'a -> 'a", "bool -> bool"}, []string{"'a -> 'b", "bool -> int"}},
		"(fun x -> x : int -> int)":     {[]string{"int -> int"}, []string{"'a -> 'a", "bool -> bool"}},
		"fun x -> x x":                  {nil, []string{"'a", "'a -> 'a", "int"}},
	} {
		x := read(t, text)
		for _, u := range typed(t, c.has...) {
			if !derive.Root(x, u) {
				t.Errorf("%q has no derivation of %s", text, types.Print(u))
			}
		}
		for _, u := range typed(t, c.not...) {
			if derive.Root(x, u) {
				t.Errorf("%q has a derivation of %s", text, types.Print(u))
			}
		}
	}
}

// P22.3

// chance gives right terms, and types, the same ones whenever the tests run.
type chance struct{ *rand.Rand }

func begin(n uint64) chance { return chance{rand.New(rand.NewPCG(n, 22))} }

func (c chance) term(depth int) api.Term {
	name := string(rune('a' + c.IntN(4)))
	part := func() api.Term { return c.term(depth - 1) }
	n := c.IntN(20)
	switch {
	case depth == 0 && n < 17 || n < 3:
		return variable(name)
	case depth == 0 && n < 19 || n == 3:
		return num(c.IntN(1000))
	case depth == 0 || n == 4:
		return api.Term{Kind: api.Bool, N: c.IntN(2)}
	case n < 9:
		return named(api.Lam, name, part())
	case n < 11:
		return node(api.App, part(), part())
	case n < 15:
		return named(api.Let, name, part(), part())
	case n == 15:
		return named(api.Rec, name, part(), part())
	case n == 16:
		return node(api.If, part(), part(), part())
	case n < 19:
		l := []api.Term{part(), part()}
		for range c.IntN(3) * c.IntN(3) {
			l = append(l, c.term(0))
		}
		return node(api.Tuple, l...)
	}
	return ann(part(), []api.Type{number(), arrow(number(), number()), tuple(truth(), number())}[c.IntN(3)])
}

// typ is a type of the variables of a few numbers.
func (c chance) typ(depth int) api.Type {
	switch n := c.IntN(8); {
	case depth == 0 && n < 5 || n < 3:
		return v(c.IntN(4))
	case depth == 0 && n < 7 || n == 3:
		return number()
	case depth == 0 || n == 4:
		return truth()
	case n < 7:
		return arrow(c.typ(depth-1), c.typ(depth-1))
	}
	return tuple(c.typ(depth-1), c.typ(depth-1))
}

// closed is a term in functions of what is free in it.
func closed(x api.Term) api.Term {
	for _, name := range scope.Free(x) {
		x = named(api.Lam, name, x)
	}
	return x
}

// derivable gives closed terms that have a type, and what Of tells of them.
func derivable(c chance, often int, visit func(x api.Term, l []api.Type)) {
	for range often {
		x := closed(c.term(1 + c.IntN(6)))
		if l, e := derive.Of(x); e == api.OK {
			visit(x, l)
		}
	}
}

func TestWhatOfTellsIsADerivation(t *testing.T) {
	count := 0
	derivable(begin(1), 40000, func(x api.Term, l []api.Type) {
		count++
		wantFault(t, x, l, right)
		if got := secondly(x, l); got != right {
			t.Fatalf("a second way: %s: %d", pretty.Print(x), got)
		}
		if u, e := infer.Type(x); e != api.OK || !types.Same(u, l[0]) || !derive.Root(x, l[0]) {
			t.Fatalf("%s: %q", pretty.Print(x), told(l))
		}
	})
	if count < 10000 {
		t.Errorf("%d derivations", count)
	}
}

// vary is types of which some are other ones.
func (c chance) vary(l []api.Type) []api.Type {
	other := copied(l)
	switch i := c.IntN(len(l)); c.IntN(6) {
	case 0: // one is one of the others
		other[i] = l[c.IntN(len(l))]
	case 1: // one is any
		other[i] = c.typ(2)
	case 2: // a variable is another type everywhere, which is as it was but where Let, or Rec, is meant
		b := []api.Bind{{Var: c.IntN(4), Type: c.typ(1)}}
		for j, u := range l {
			other[j] = subst.Apply(b, u)
		}
	case 3: // in one alone, and perhaps in those from there on
		b := []api.Bind{{Var: c.IntN(4), Type: c.typ(1)}}
		for j := i; j < len(l) && (j == i || c.IntN(3) > 0); j++ {
			other[j] = subst.Apply(b, l[j])
		}
	case 4: // two are each other's
		j := c.IntN(len(l))
		other[i], other[j] = l[j], l[i]
	case 5: // two variables are one
		a, b := c.IntN(4), c.IntN(4)
		for j, u := range l {
			other[j] = subst.Apply([]api.Bind{{Var: a, Type: v(b)}}, u)
		}
	}
	return other
}

func TestVariedDerivations(t *testing.T) {
	by := begin(2)
	derivations, faults := 0, map[int]int{}
	derivable(by, 15000, func(x api.Term, l []api.Type) {
		for range 8 {
			other := by.vary(l)
			want := secondly(x, other)
			wantFault(t, x, other, want)
			if want != right {
				y, _ := term.Nth(x, want)
				faults[y.Kind]++
				continue
			}
			if !sameTypes(other, l) {
				derivations++
			}
			if u, _ := infer.Type(x); !derive.Root(x, other[0]) || !scheme.Instance(scheme.Close(u), other[0]) {
				t.Fatalf("%s has the derivation %q", pretty.Print(x), told(other))
			}
		}
	})
	if derivations < 3000 {
		t.Errorf("%d other derivations", derivations)
	}
	for kind := api.Var; kind <= api.Ann; kind++ {
		if faults[kind] < 50 {
			t.Errorf("%d faults of kind %d", faults[kind], kind)
		}
	}
}

// Any instance without variables of what a term's type is for all of is the first one of a derivation.
func TestRootHasADerivation(t *testing.T) {
	by := begin(3)
	derivable(by, 10000, func(x api.Term, l []api.Type) {
		var b []api.Bind
		for _, n := range types.Vars(l[0]) {
			b = append(b, api.Bind{Var: n, Type: []api.Type{number(), truth(), arrow(number(), truth())}[by.IntN(3)]})
		}
		u := subst.Apply(b, l[0])
		around, e := derive.Of(ann(x, u))
		if e != api.OK || !derive.Root(x, u) {
			t.Fatalf("%s has no derivation of %s", pretty.Print(x), types.Print(u))
		}
		wantFault(t, x, around[1:], right)
		if !types.Same(around[1], u) {
			t.Fatalf("%s: %q", pretty.Print(x), told(around))
		}
	})
}

// Rule 4

func TestAnswersAreNewMemory(t *testing.T) {
	x := read(t, "let a = (fun x -> (x, x) : int -> (int * int)) in (a, fun y -> (y, a 1))")
	l, _ := derive.Of(x)
	want := copied(l)
	for i := range l {
		for j := range l[i].Parts {
			l[i].Parts[j] = typ(77, 7)
		}
		l[i] = typ(78, 8)
	}
	if again, e := derive.Of(x); e != api.OK || !sameTypes(again, want) {
		t.Error("Of answers one memory twice")
	}
}

func TestWhatIsHandedInStays(t *testing.T) {
	x := read(t, "let a = (fun x -> (x, x) : int -> (int * int)) in let rec f = fun y -> (fun z -> f y) a in (f, fun y -> (y, a 1))")
	before := term.Copy(x)
	l, _ := derive.Of(x)
	room := append(l, v(5), v(6))[:len(l)]
	kept := copied(room[:len(l)+2])
	derive.Check(x, room)
	derive.Fault(x, room)
	derive.Root(x, room[0])
	room[3] = v(2)
	kept[3] = v(2)
	derive.Fault(x, room)
	if !term.Equal(x, before) || !sameTypes(room[:len(l)+2], kept) {
		t.Error("what is handed in is changed")
	}
}

// What the Vars have as N doesn't matter.
func TestGoesByNames(t *testing.T) {
	x := read(t, "fun x -> let i = fun y -> x in (i, i x)")
	l, _ := derive.Of(x)
	resolved, _, _ := scope.Resolve(x)
	far := term.Copy(x)
	far.Parts[0].Parts[0].Parts[0].N = 77
	for _, y := range []api.Term{x, resolved, far, scope.Rename(x, "a", "b", "c")} {
		wantFault(t, y, l, right)
		other := slices.Clone(l)
		other[5] = number()
		wantFault(t, y, other, 4)
	}
}

// deep ones

func TestDeepTerms(t *testing.T) {
	defer debug.SetMaxStack(debug.SetMaxStack(1 << 19))
	one := variable("x")
	for what, around := range map[string]func(x api.Term) api.Term{
		"functions, applied": func(x api.Term) api.Term { return node(api.App, named(api.Lam, "y", x), num(1)) },
		"within let":         func(x api.Term) api.Term { return named(api.Let, "y", x, one) },
		"within let, meant":  func(x api.Term) api.Term { return named(api.Let, "y", x, variable("y")) },
		"within let rec":     func(x api.Term) api.Term { return named(api.Rec, "y", x, variable("y")) },
		"let rec":            func(x api.Term) api.Term { return named(api.Rec, "x", one, x) },
		"let":                func(x api.Term) api.Term { return named(api.Let, "x", one, x) },
		"let and functions": func(x api.Term) api.Term {
			return node(api.App, named(api.Lam, "x", named(api.Let, "y", variable("x"), x)), one)
		},
		"if":              func(x api.Term) api.Term { return node(api.If, api.Term{Kind: api.Bool}, one, x) },
		"if, asked":       func(x api.Term) api.Term { return node(api.If, x, one, one) },
		"annotated again": func(x api.Term) api.Term { return ann(x, number()) },
		"to the right":    func(x api.Term) api.Term { return node(api.App, named(api.Lam, "y", variable("y")), x) },
	} {
		x := one
		for range deep {
			x = around(x)
		}
		whole := named(api.Lam, "x", x)
		l, e := derive.Of(whole)
		if e != api.OK || !derive.Check(whole, l) {
			t.Errorf("%s: %d types, %v", what, len(l), e)
			continue
		}
		last := len(l) - 1
		l[last] = tuple(v(0), truth(), v(0))
		if number, wrong := derive.Fault(whole, l); !wrong || number == 0 {
			t.Errorf("%s: a fault of %d of %d, %v", what, number, last, wrong)
		}
		wantNone(t, what+", one too few", whole, l[:last])
		wantNone(t, what+", wrong", node(api.App, whole, api.Term{}), append(l, l[0], l[0]))
	}
}

// Types may be deep where terms aren't.
func TestDeepTypes(t *testing.T) {
	defer debug.SetMaxStack(debug.SetMaxStack(1 << 19))
	far := v(0)
	for range deep {
		far = arrow(far, number())
	}
	put := func(u api.Type) api.Type { return subst.Apply([]api.Bind{{Var: 0, Type: u}}, far) }
	x := read(t, "let i = let rec f = f in f in i")
	for _, u := range []api.Type{far, v(3), put(truth()), number()} {
		wantDeep := func(l []api.Type, want int) {
			t.Helper()
			if number, wrong := derive.Fault(x, l); number != max(want, 0) || wrong != (want != right) || derive.Check(x, l) != (want == right) {
				t.Errorf("%d, %v, want %d", number, wrong, want)
			}
		}
		wantDeep([]api.Type{put(u), far, far, far, put(u)}, right)
		wantDeep([]api.Type{put(u), far, put(number()), far, put(u)}, 3)
		wantDeep([]api.Type{u, far, far, far, put(u)}, 0)
	}
}
