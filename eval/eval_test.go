package eval_test

import (
	"maps"
	"math"
	"math/rand/v2"
	"runtime/debug"
	"slices"
	"strconv"
	"strings"
	"testing"

	"pangram/api"
	"pangram/eval"
	"pangram/infer"
	"pangram/parse"
	"pangram/pretty"
	"pangram/scope"
	"pangram/signature"
	"pangram/term"
	"pangram/types"
)

const deep = 1 << 13 // levels: calls within calls as deep would take more than the stack that the tests of deep ones give

func variable(name string) api.Term { return api.Term{Kind: api.Var, Name: name} }

func num(n int) api.Term { return api.Term{Kind: api.Int, N: n} }

func node(kind int, parts ...api.Term) api.Term { return api.Term{Kind: kind, Parts: parts} }

func named(kind int, name string, parts ...api.Term) api.Term {
	return api.Term{Kind: kind, Name: name, Parts: parts}
}

func ann(x api.Term, t api.Type) api.Term {
	return api.Term{Kind: api.Ann, Type: t, Parts: []api.Term{x}}
}

func typ(kind, n int, parts ...api.Type) api.Type {
	return api.Type{Kind: kind, N: n, Parts: parts}
}

func number() api.Type { return typ(api.TInt, 0) }

func truth() api.Type { return typ(api.TBool, 0) }

func arrow(a, b api.Type) api.Type { return typ(api.TArrow, 0, a, b) }

func value(kind, n int, parts ...api.Value) api.Value {
	return api.Value{Kind: kind, N: n, Parts: parts}
}

func one() api.Value { return value(api.NumV, 1) }

func fun() api.Value { return value(api.FunV, 0) }

func tuple(parts ...api.Value) api.Value { return value(api.TupleV, 0, parts...) }

// read is the term of a text.
func read(t *testing.T, s string) api.Term {
	t.Helper()
	x, _, e := parse.Term(s, math.MaxInt)
	if e != api.OK {
		t.Fatalf("no term: %.80q", s)
	}
	return x
}

// typed is the type of a text.
func typed(t *testing.T, s string) api.Type {
	t.Helper()
	u, e := signature.Parse(s)
	if e != api.OK {
		t.Fatalf("no type: %q", s)
	}
	return u
}

// same tells whether two values are, without the package's own help.
func same(a, b api.Value) bool {
	return a.Kind == b.Kind && a.N == b.N && slices.EqualFunc(a.Parts, b.Parts, same)
}

// told is a value's text, without the package's own help.
func told(v api.Value) string {
	switch v.Kind {
	case api.NumV:
		return strconv.Itoa(v.N)
	case api.TruthV:
		return []string{"false", "true"}[v.N]
	case api.TupleV:
		var l []string
		for _, part := range v.Parts {
			l = append(l, told(part))
		}
		return "(" + strings.Join(l, ", ") + ")"
	}
	return "fun"
}

// wantRun wants an answer of one call, and the same one again.
func wantRun(t *testing.T, what string, x api.Term, fuel int, want api.Value, steps int, err api.Errno) {
	t.Helper()
	for range 2 {
		v, n, e := eval.Run(x, fuel)
		if !same(v, want) || n != steps || e != err {
			t.Fatalf("%s, fuel %d: %+v, %d, %d, want %+v, %d, %d", what, fuel, v, n, e, want, steps, err)
		}
	}
}

// enough is fuels from some on, to the greatest one.
func enough(steps int) []int {
	return []int{steps, steps + 1, 2*steps + 7, api.MaxFuel - 1, api.MaxFuel}
}

// wantTooFew wants that a term runs out of fuel with fewer steps than some.
func wantTooFew(t *testing.T, what string, x api.Term, steps int) {
	t.Helper()
	for fuel := range min(steps, 100) {
		wantRun(t, what, x, fuel, api.Value{}, fuel, api.ErrFuel)
		wantRun(t, what, x, steps-1-fuel, api.Value{}, steps-1-fuel, api.ErrFuel)
	}
}

// wantWorth wants a value, in so many steps, with as much fuel or more.
func wantWorth(t *testing.T, s string, want api.Value, steps int) {
	t.Helper()
	x := read(t, s)
	wantTooFew(t, s, x, steps)
	for _, fuel := range enough(steps) {
		wantRun(t, s, x, fuel, want, steps, api.OK)
	}
	hold(t, x, steps+1)
}

// wantText is wantWorth of a value that is told by its text.
func wantText(t *testing.T, s, want string, steps int) {
	t.Helper()
	v, n, e := eval.Run(read(t, s), api.MaxFuel)
	if e != api.OK || told(v) != want || n != steps {
		t.Fatalf("%s: %s, %d, %d, want %s, %d", s, told(v), n, e, want, steps)
	}
	if got := eval.Text(v); got != want || !eval.Right(v) {
		t.Errorf("%s: the text %q, want %q", s, got, want)
	}
	wantWorth(t, s, v, steps)
}

// wantStuck wants that a term is stuck behind so many steps.
func wantStuck(t *testing.T, s string, steps int) {
	t.Helper()
	x := read(t, s)
	wantTooFew(t, s, x, steps)
	for _, fuel := range enough(steps) {
		wantRun(t, s, x, fuel, api.Value{}, steps, api.ErrStuck)
	}
	hold(t, x, steps+1)
}

// wantNever wants that a term runs out of whatever fuel.
func wantNever(t *testing.T, s string) {
	t.Helper()
	x := read(t, s)
	for _, fuel := range []int{0, 1, 2, 3, 10, 100, 1000, 12345} {
		wantRun(t, s, x, fuel, api.Value{}, fuel, api.ErrFuel)
	}
	if v, n, e := eval.Run(x, api.MaxFuel); !same(v, api.Value{}) || n != api.MaxFuel || e != api.ErrFuel {
		t.Errorf("%s: %+v, %d, %d", s, v, n, e)
	}
	hold(t, x, 50)
}

// What a term is worth, a second way: by calls within calls, names being looked up in a map.

// second is an evaluation; errors are told by panics.
type second struct{ fuel, steps int }

// known is what a name means, or a term is worth.
type known struct {
	value api.Value
	term  api.Term // of a function its Lam, of a Rec its first part
	there map[string]known
	isRec bool
}

// with is what names mean where one more does.
func with(there map[string]known, name string, k known) map[string]known {
	inside := maps.Clone(there)
	inside[name] = k
	return inside
}

func (s *second) worth(x api.Term, there map[string]known) known {
	if s.steps == s.fuel {
		panic(api.ErrFuel)
	}
	s.steps++
	switch x.Kind {
	case api.Int:
		return known{value: value(api.NumV, x.N)}
	case api.Bool:
		return known{value: value(api.TruthV, x.N)}
	case api.Lam:
		return known{value: fun(), term: x, there: there}
	case api.App:
		f := s.worth(x.Parts[0], there)
		v := s.worth(x.Parts[1], there)
		if f.value.Kind != api.FunV {
			panic(api.ErrStuck)
		}
		return s.worth(f.term.Parts[0], with(f.there, f.term.Name, v))
	case api.Let:
		return s.worth(x.Parts[1], with(there, x.Name, s.worth(x.Parts[0], there)))
	case api.Rec:
		inside := maps.Clone(there)
		inside[x.Name] = known{isRec: true, term: x.Parts[0], there: inside}
		return s.worth(x.Parts[1], inside)
	case api.If:
		c := s.worth(x.Parts[0], there).value
		if c.Kind != api.TruthV {
			panic(api.ErrStuck)
		}
		return s.worth(x.Parts[2-c.N], there)
	case api.Tuple:
		v := tuple()
		for _, part := range x.Parts {
			v.Parts = append(v.Parts, s.worth(part, there).value)
		}
		return known{value: v}
	case api.Ann:
		return s.worth(x.Parts[0], there)
	}
	k := there[x.Name]
	if k.isRec {
		return s.worth(k.term, k.there)
	}
	return k
}

// secondly is what Run has to answer of a right closed term, and a fuel that may be.
func secondly(x api.Term, fuel int) (v api.Value, steps int, err api.Errno) {
	s := &second{fuel: fuel}
	defer func() {
		steps = s.steps
		if e, ok := recover().(api.Errno); ok {
			err = e
		}
	}()
	return s.worth(x, map[string]known{}).value, 0, api.OK
}

// hold holds what Run answers against what comes the second way, and gives the error.
func hold(t *testing.T, x api.Term, fuel int) api.Errno {
	t.Helper()
	want, steps, err := secondly(x, fuel)
	v, n, e := eval.Run(x, fuel)
	if !same(v, want) || n != steps || e != err {
		t.Fatalf("%s, fuel %d: %+v, %d, %d, want %+v, %d, %d", pretty.Print(x), fuel, v, n, e, want, steps, err)
	}
	return e
}

// P25.1: what terms are worth

func TestRun(t *testing.T) {
	wantWorth(t, "1", one(), 1)
	wantWorth(t, "0", value(api.NumV, 0), 1)
	wantWorth(t, "999999999", value(api.NumV, 999_999_999), 1)
	wantWorth(t, "true", value(api.TruthV, 1), 1)
	wantWorth(t, "false", value(api.TruthV, 0), 1)
	wantWorth(t, "fun x -> x", fun(), 1)
	wantWorth(t, "(true, 1)", tuple(value(api.TruthV, 1), one()), 3)
	wantWorth(t, "(fun x -> (x, x)) 2", tuple(value(api.NumV, 2), value(api.NumV, 2)), 6)
	wantWorth(t, "(1, fun x -> x, (false, 2))", tuple(one(), fun(), tuple(value(api.TruthV, 0), value(api.NumV, 2))), 6)
	wantText(t, "(1, 2, 3, 4, 5, 6, 7, 8)", "(1, 2, 3, 4, 5, 6, 7, 8)", 9)
}

func TestEachKind(t *testing.T) {
	for _, c := range []struct {
		s, want string
		steps   int
	}{
		{"(fun x -> x) 1", "1", 4},
		{"(fun x -> 2) 1", "2", 4},
		{"(fun x -> fun y -> (x, y)) 1 2", "(1, 2)", 9},
		{"(fun f -> f 1) (fun x -> (x, 2))", "(1, 2)", 9},
		{"(fun f -> (f, f)) (fun x -> x)", "(fun, fun)", 6},
		{"let x = 1 in x", "1", 3},
		{"let x = 1 in 2", "2", 3},
		{"let f = fun x -> x in (f 1, f true)", "(1, true)", 11},
		{"if true then 1 else 2", "1", 3},
		{"if false then 1 else 2", "2", 3},
		{"if if false then true else false then 1 else (2, 3)", "(2, 3)", 7},
		{"(fun p -> if p then 1 else 2) false", "2", 6},
		{"(1 : int)", "1", 2},
		{"((1 : int), ((true : bool) : bool))", "(1, true)", 6},
		{"(fun x -> x : int -> int) 1", "1", 5},
		// the other part isn't worked out, nor what is in a function
		{"if true then 1 else 2 3", "1", 3},
		{"if false then 1 2 else 3", "3", 3},
		{"if true then 1 else let rec f = f in f", "1", 3},
		{"fun x -> 1 2", "fun", 1},
		{"fun x -> let rec f = f in f", "fun", 1},
		// of types nothing is asked
		{"(1 : bool)", "1", 2},
		{"(fun x -> x : int)", "fun", 2},
		{"(fun x -> x x) (fun x -> x)", "fun", 7},
		{"if true then 1 else (2, 3)", "1", 3},
		{"(fun f -> (f 1, f true)) (fun x -> x)", "(1, true)", 12},
	} {
		wantText(t, c.s, c.want, c.steps)
	}
}

func TestRec(t *testing.T) {
	for _, c := range []struct {
		s, want string
		steps   int
	}{
		// never meant
		{"let rec f = 1 in 2", "2", 2},
		{"let rec f = f in 1", "1", 2},
		{"let rec f = 1 2 in 3", "3", 2},
		// meant: its first part is worked out each time
		{"let rec f = 1 in f", "1", 3},
		{"let rec f = 1 in (f, f)", "(1, 1)", 6},
		{"let rec f = (fun x -> x) 1 in (f, f)", "(1, 1)", 12},
		{"let rec f = fun x -> x in f", "fun", 3},
		{"let rec f = fun x -> f x in f", "fun", 3},
		{"let rec f = fun x -> x in (f 1, f true)", "(1, true)", 12},
		{"let rec f = (fun x -> f, 1) in f", "(fun, 1)", 5},
		// that ends
		{"let rec f = fun b -> if b then f false else 1 in f true", "1", 14},
		{"let rec f = fun a -> fun b -> if a then f b false else (a, b) in f true true", "(false, false)", 31},
		// within a function: what is around it is that call's
		{"(fun x -> let rec r = x in fun y -> r) 3 4", "3", 9},
		{"let f = fun x -> let rec r = (x, x) in r in (f 1, f 2)", "((1, 1), (2, 2))", 19},
		{"(fun x -> let rec r = fun b -> if b then r false else x in r) 7 true", "7", 17},
		// within another one
		{"let rec f = let rec g = f in 1 in f", "1", 4},
		{"let rec f = 1 in let rec g = f in (g, f)", "(1, 1)", 8},
		{"let rec f = let rec g = 1 in (g, g) in (f, f)", "((1, 1), (1, 1))", 16},
		{"let rec f = fun x -> let rec g = fun y -> if y then f false else 7 in if x then g true else g false in f true", "7", 28},
		// in the first part of a Let, which is worked out once
		{"let a = let rec f = 1 in f in (a, a)", "(1, 1)", 7},
		{"let a = let rec f = fun b -> if b then f false else 1 in f in a true", "1", 16},
		// in other places
		{"(let rec f = fun x -> x in f) (let rec f = 1 in f)", "1", 8},
		{"if let rec f = true in f then 1 else 2", "1", 5},
		{"(let rec f = 1 in f, let rec f = 2 in f)", "(1, 2)", 7},
	} {
		wantText(t, c.s, c.want, c.steps)
	}
}

func TestNames(t *testing.T) {
	for _, c := range []struct {
		s, want string
		steps   int
	}{
		// a name that is another one's around it
		{"let x = 1 in let x = 2 in x", "2", 5},
		{"let x = 1 in let x = (x, x) in x", "(1, 1)", 7},
		{"let x = 1 in (let x = 2 in x, x)", "(2, 1)", 7},
		{"(fun x -> fun x -> x) 1 2", "2", 7},
		{"(fun x -> (fun x -> x) 2) 1", "2", 7},
		{"(fun x -> ((fun x -> x) 2, x)) 1", "(2, 1)", 9},
		{"let rec x = 1 in let x = x in x", "1", 5},
		{"let x = 1 in let rec x = 2 in x", "2", 5},
		{"let rec f = fun f -> f in f 1", "1", 6},
		{"let rec f = let f = 1 in f in f", "1", 5},
		{"let rec f = let rec f = 1 in f in f", "1", 5},
		// one that a function keeps
		{"let x = 1 in let f = fun y -> x in let x = 2 in (f 0, x)", "(1, 2)", 12},
		{"let f = fun x -> fun y -> x in let x = 5 in f 1 x", "1", 11},
		{"let x = 1 in let f = fun x -> fun y -> x in let y = 3 in let x = 2 in (f 4 x, y)", "(4, 3)", 17},
		{"let f = (fun x -> fun y -> x) 1 in let y = 2 in let x = 3 in (f 9, x, y)", "(1, 3, 2)", 16},
		{"let x = 1 in let rec r = x in let x = 2 in r", "1", 7},
		{"let x = 1 in let rec r = fun y -> x in let x = 2 in (r x, x)", "(1, 2)", 12},
		{"let rec f = 1 in let g = fun x -> f in let f = 2 in (g 0, f)", "(1, 2)", 12},
		// a function that is handed on out of where its names stand
		{"(let x = 1 in fun y -> (x, y)) 2", "(1, 2)", 8},
		{"(fun x -> fun y -> fun z -> (x, y, z)) 1 2 3", "(1, 2, 3)", 13},
		{"let f = let x = 1 in fun y -> x in let x = 2 in (f x, x)", "(1, 2)", 12},
		{"(if true then let x = 1 in fun y -> x else 2) 3", "1", 8},
		{"let a = fun x -> fun y -> x in let b = a 1 in let c = a 2 in (b 0, c 0, b 0)", "(1, 2, 1)", 25},
		{"let f = fun g -> let x = 1 in g x in let x = 2 in f (fun y -> (x, y))", "(2, 1)", 15},
	} {
		wantText(t, c.s, c.want, c.steps)
	}
}

func TestStuck(t *testing.T) {
	for s, steps := range map[string]int{
		// what is applied is no function
		"1 2":                           3,
		"true 1":                        3,
		"(1, 2) 3":                      5,
		"1 (2, 3) 4":                    6,
		"(1 : int -> int) 2":            4,
		"(fun x -> x) 1 2":              6,
		"(fun x -> x x) 1":              6,
		"(fun x -> x 1) (2, 3)":         8,
		"let x = 1 in x x":              5,
		"let rec f = 1 in f f":          6,
		"(let x = 1 in x) (fun x -> x)": 5,
		// what is asked is no truth
		"if 1 then 2 else 3":                     2,
		"if 0 then 2 else 3":                     2,
		"if (true, false) then 2 else 3":         4,
		"if fun x -> x then 2 else 3":            2,
		"if let rec f = 1 in f then 2 else 3":    4,
		"if 1 then let rec f = f in f else 2 3":  2,
		"if (1 : bool) then 2 else 3":            3,
		"if if true then 1 else 2 then 3 else 4": 4,
		// within others
		"(1, 2 3)":             5,
		"(1 2, 3)":             4,
		"let x = 1 2 in 3":     4,
		"let x = 1 in x 2":     5,
		"(1 2 : int)":          4,
		"(fun x -> x) (1 2)":   5,
		"1 2 (3 4)":            4,
		"1 (2 3)":              5,
		"if 1 2 then 3 else 4": 4,
		"if true then 1 2 else let rec f = f in f": 5,
		"let rec f = 1 2 in f":                     5,
		"(fun x -> 1 x) 2":                         6,
		// ahead of what never ends
		"(1 2, let rec f = f in f)":           4,
		"1 2 (let rec f = f in f)":            4,
		"let x = 1 2 in let rec f = f in f":   4,
		"let rec f = fun x -> f (1 x) in f 2": 11,
	} {
		wantStuck(t, s, steps)
	}
}

func TestNeverEnds(t *testing.T) {
	for _, s := range []string{
		"let rec f = f in f",
		"let rec f = (f : int) in f",
		"let rec f = f f in f",
		"let rec f = f 1 in f",
		"let rec f = (f, f) in f",
		"let rec f = (1, f) in f",
		"let rec f = if f then 1 else 2 in f",
		"let rec f = if true then f else 2 in f",
		"let rec f = let x = f in 1 in f",
		"let rec f = let x = 1 in f in f",
		"let rec f = let rec g = f in g in f",
		"let rec f = let rec g = g in f in f",
		"let rec f = let rec f = f in f in f",
		"let rec f = fun x -> f x in f 1",
		"let rec f = fun x -> f (x, x) in f 1",
		"let rec f = fun x -> (x, f x) in f 1",
		"let rec f = fun x -> let rec g = fun y -> f y in g x in f 1",
		"(fun x -> x x) (fun x -> x x)",
		"(fun x -> x x x) (fun x -> x x x)",
		// ahead of what is stuck
		"(let rec f = f in f, 1 2)",
		"(let rec f = f in f) (1 2)",
		"1 (let rec f = f in f)",
		"true (let rec f = f in f)",
		"(1, 2) (let rec f = fun x -> f x in f 3)",
		"if let rec f = f in f then 1 2 else 3",
		"let x = let rec f = f in f in 1 2",
		"1 ((fun x -> x x) (fun x -> x x)) (2 3)",
	} {
		wantNever(t, s)
	}
}

// The greatest fuel is just enough, or one too few.
func TestGreatestFuel(t *testing.T) {
	// a tuple of eights, eight levels of it, of 1 + 8 + .. + 8^6 steps, and one that is filled up to some steps in all
	filled := func(steps int) api.Term {
		x := num(1)
		for range 6 {
			x = node(api.Tuple, slices.Repeat([]api.Term{x}, 8)...)
		}
		rest := steps - 1 - term.Size(x)
		var y api.Term
		for y = num(2); rest > 1; rest-- {
			y = ann(y, number())
		}
		return node(api.Tuple, x, y)
	}
	just := filled(api.MaxFuel)
	if v, n, e := eval.Run(just, api.MaxFuel); e != api.OK || n != api.MaxFuel || len(v.Parts) != 2 || v.Parts[1].N != 2 {
		t.Errorf("just as much fuel as steps: %d, %d", n, e)
	}
	wantRun(t, "one fewer", just, api.MaxFuel-1, api.Value{}, api.MaxFuel-1, api.ErrFuel)
	wantRun(t, "one more than may be", filled(api.MaxFuel+1), api.MaxFuel, api.Value{}, api.MaxFuel, api.ErrFuel)
	stuck := node(api.App, filled(api.MaxFuel-2), num(1))
	wantRun(t, "stuck behind the last step", stuck, api.MaxFuel, api.Value{}, api.MaxFuel, api.ErrStuck)
	wantRun(t, "out of fuel ahead of that", stuck, api.MaxFuel-1, api.Value{}, api.MaxFuel-1, api.ErrFuel)
}

// P25.1: what can't be run

// wrongTerms is terms that aren't right, by what is wrong with them.
func wrongTerms() map[string]api.Term {
	x := variable("x")
	l := map[string]api.Term{
		"the zero one":                      {},
		"a kind above 10":                   named(11, "x", x),
		"a kind below 0":                    named(-1, "x", x),
		"no name":                           variable(""),
		"a word as name":                    variable("let"),
		"a variable below 0":                {Kind: api.Var, Name: "x", N: -1},
		"a variable with parts":             named(api.Var, "x", x),
		"a number below 0":                  num(-1),
		"a number of ten digits":            num(1_000_000_000),
		"a truth of 2":                      {Kind: api.Bool, N: 2},
		"a function without parts":          named(api.Lam, "x"),
		"a function of two":                 named(api.Lam, "x", x, x),
		"let of one":                        named(api.Let, "x", num(1)),
		"let rec of three":                  named(api.Rec, "x", x, x, x),
		"an application of one":             node(api.App, num(1)),
		"if of two":                         node(api.If, num(1), num(2)),
		"a tuple of one":                    node(api.Tuple, num(1)),
		"a tuple of nine":                   node(api.Tuple, slices.Repeat([]api.Term{num(1)}, 9)...),
		"an annotation of no type":          node(api.Ann, num(1)),
		"an annotation with a variable":     ann(num(1), arrow(number(), types.Var(0))),
		"an annotation that isn't right":    ann(num(1), arrow(number(), api.Type{})),
		"a type where there is none":        {Kind: api.Int, Type: number()},
		"a part where there is none":        node(api.Int, num(1)),
		"a free name ahead of what's wrong": node(api.App, variable("free"), node(api.Tuple)),
		"stuck ahead of what's wrong":       node(api.App, node(api.App, num(1), num(1)), node(api.Tuple)),
		"never come to":                     node(api.If, api.Term{Kind: api.Bool, N: 1}, num(1), node(api.Tuple)),
	}
	for what, y := range maps.Clone(l) {
		l[what+", inside"] = named(api.Lam, "x", node(api.App, num(1), y))
	}
	return l
}

func TestWrongTerms(t *testing.T) {
	for what, x := range wrongTerms() {
		for _, fuel := range []int{math.MinInt, -1, 0, 1, 100, api.MaxFuel, api.MaxFuel + 1, math.MaxInt} {
			wantRun(t, what, x, fuel, api.Value{}, 0, api.ErrArg)
		}
	}
}

func TestWrongFuel(t *testing.T) {
	for _, s := range []string{"1", "x", "1 2", "let rec f = f in f", "(fun x -> (x, x)) 2", "fun x -> y"} {
		for _, fuel := range []int{math.MinInt, -api.MaxFuel, -2, -1, api.MaxFuel + 1, api.MaxFuel + 2, 1 << 40, math.MaxInt} {
			wantRun(t, s, read(t, s), fuel, api.Value{}, 0, api.ErrArg)
		}
	}
}

func TestFreeNames(t *testing.T) {
	for _, s := range []string{
		"x", "f 1", "fun x -> y", "let x = x in x", "(fun x -> x, x)", "(let x = 1 in x, x)", "(let rec f = f in f) f",
		"let rec f = g in f", "let f = fun x -> f in f", "if true then 1 else x", "(x : int)", "(1, 2, 3, 4, 5, 6, 7, x)",
		// behind what is stuck, or never ends, or where nothing is worked out
		"(1 2, x)", "1 2 x", "(let rec f = f in f, x)", "let rec f = x in 1", "fun y -> fun z -> x",
	} {
		for _, fuel := range []int{0, 1, 100, api.MaxFuel} {
			wantRun(t, s, read(t, s), fuel, api.Value{}, 0, api.ErrScope)
		}
	}
}

func TestNoFuel(t *testing.T) {
	for _, s := range []string{"1", "true", "fun x -> x", "(1, 2)", "1 2", "let x = 1 in x", "let rec f = f in f", "if 1 then 2 else 3", "(1 : int)"} {
		wantRun(t, s, read(t, s), 0, api.Value{}, 0, api.ErrFuel)
	}
}

// What a term's Vars have as N, and its spans, don't matter.
func TestNumbersOfVars(t *testing.T) {
	by := begin(7)
	for range 500 {
		x := closed(by.term(1 + by.IntN(5)))
		want, steps, err := eval.Run(x, 1000)
		eachTerm(&x, func(y *api.Term) {
			y.At = api.Span{From: by.IntN(9) - 4, To: by.IntN(9) - 4}
			if y.Kind == api.Var {
				y.N = []int{0, 1, 2, 1 << 40, math.MaxInt}[by.IntN(5)]
			}
		})
		wantRun(t, pretty.Print(x), x, 1000, want, steps, err)
		resolved, _, _ := scope.Resolve(x)
		wantRun(t, pretty.Print(x), resolved, 1000, want, steps, err)
	}
}

// eachTerm hands all terms to a function that may change them.
func eachTerm(x *api.Term, visit func(x *api.Term)) {
	visit(x)
	for i := range x.Parts {
		eachTerm(&x.Parts[i], visit)
	}
}

// P25.1 and P25.3: many terms

// smallTerms is right terms of up to so many levels, of two names.
func smallTerms(depth int) []api.Term {
	l := []api.Term{variable("x"), variable("y"), num(1), {Kind: api.Bool, N: 1}}
	if depth == 1 {
		return l
	}
	for _, a := range smallTerms(depth - 1) {
		l = append(l, named(api.Lam, "x", a), named(api.Lam, "y", a))
		for _, b := range smallTerms(depth - 1) {
			l = append(l, named(api.Let, "x", a, b), named(api.Rec, "x", a, b), node(api.App, a, b))
			if depth == 2 {
				l = append(l, named(api.Let, "y", a, b), named(api.Rec, "y", a, b), node(api.If, a, b, a), node(api.Tuple, b, a), ann(a, number()))
			}
		}
	}
	return l
}

// closed is a term where what is free in it means a value of each kind, one after the other.
func closed(x api.Term) api.Term {
	first := []api.Term{num(5), named(api.Lam, "x", node(api.Tuple, variable("x"), variable("x"))), {Kind: api.Bool}, node(api.Tuple, num(6), num(7))}
	for i, name := range scope.Free(x) {
		x = named(api.Let, name, first[i%len(first)], x)
	}
	return x
}

func TestSmallTerms(t *testing.T) {
	ends := map[api.Errno]int{}
	for _, x := range smallTerms(3) {
		if len(scope.Free(x)) > 0 {
			wantRun(t, pretty.Print(x), x, 1, api.Value{}, 0, api.ErrScope)
		}
		x = closed(x)
		for _, fuel := range []int{3, 8, 200} {
			ends[hold(t, x, fuel)]++
		}
		holdTyped(t, x, 200)
	}
	for _, e := range []api.Errno{api.OK, api.ErrFuel, api.ErrStuck} {
		if ends[e] < 1000 {
			t.Errorf("%d end with %d", ends[e], e)
		}
	}
}

// holdTyped holds what is said of a right closed term that has a type, if it has one, and tells whether it has, and comes to a value.
func holdTyped(t *testing.T, x api.Term, fuel int) bool {
	t.Helper()
	u, err := infer.Type(x)
	v, steps, e := eval.Run(x, fuel)
	switch {
	case err != api.OK:
		return false
	case e == api.ErrStuck:
		t.Fatalf("%s, which has a type, is stuck", pretty.Print(x))
	case e == api.OK && !eval.Has(v, u):
		t.Fatalf("%s: %+v isn't one of %s", pretty.Print(x), v, types.Print(u))
	case e == api.OK:
		wantRun(t, pretty.Print(x), x, steps, v, steps, api.OK)
		wantRun(t, pretty.Print(x), x, fuel+1000, v, steps, api.OK)
	}
	return e == api.OK
}

// chance gives right terms, the same ones whenever the tests run.
type chance struct{ *rand.Rand }

func begin(n uint64) chance { return chance{rand.New(rand.NewPCG(n, 25))} }

func (c chance) term(depth int) api.Term {
	name := string(rune('a' + c.IntN(4)))
	part := func() api.Term { return c.term(depth - 1) }
	n := c.IntN(20)
	switch {
	case depth == 0 && n < 14 || n < 3:
		return variable(name)
	case depth == 0 && n < 17 || n == 3:
		return num(c.IntN(1000))
	case depth == 0 || n == 4:
		return api.Term{Kind: api.Bool, N: c.IntN(2)}
	case n < 8:
		return named(api.Lam, name, part())
	case n < 11:
		return node(api.App, part(), part())
	case n < 13:
		return named(api.Let, name, part(), part())
	case n < 15:
		return named(api.Rec, name, part(), part())
	case n == 15:
		return node(api.If, part(), part(), part())
	case n == 16:
		return node(api.If, api.Term{Kind: api.Bool, N: c.IntN(2)}, part(), part())
	case n < 19:
		l := []api.Term{part(), part()}
		for range c.IntN(3) * c.IntN(3) {
			l = append(l, c.term(0))
		}
		return node(api.Tuple, l...)
	}
	return ann(part(), []api.Type{number(), truth(), arrow(number(), number())}[c.IntN(3)])
}

func TestTermsByChance(t *testing.T) {
	by := begin(1)
	ends := map[api.Errno]int{}
	for range 60000 {
		x := closed(by.term(1 + by.IntN(6)))
		ends[hold(t, x, by.IntN(30))]++
		ends[hold(t, x, 300)]++
	}
	for _, e := range []api.Errno{api.OK, api.ErrFuel, api.ErrStuck} {
		if ends[e] < 5000 {
			t.Errorf("%d end with %d", ends[e], e)
		}
	}
}

func TestTypedTermsByChance(t *testing.T) {
	by := begin(2)
	have, kinds := 0, map[int]int{}
	for range 60000 {
		x := closed(by.term(1 + by.IntN(6)))
		if holdTyped(t, x, 1000) {
			have++
			for _, y := range term.All(x) {
				kinds[y.Kind]++
			}
		}
	}
	if have < 10000 {
		t.Errorf("%d terms have a type, and come to a value", have)
	}
	for kind := api.Var; kind <= api.Ann; kind++ {
		if kinds[kind] < 200 {
			t.Errorf("%d of kind %d do", kinds[kind], kind)
		}
	}
}

// Alike terms are worth the same.
func TestOtherNames(t *testing.T) {
	by := begin(3)
	for range 5000 {
		x := closed(by.term(1 + by.IntN(6)))
		var l []string
		for range scope.Bound(x) {
			l = append(l, string(rune('a'+by.IntN(8))))
		}
		v, steps, e := eval.Run(x, 300)
		wantRun(t, pretty.Print(x), scope.Rename(x, l...), 300, v, steps, e)
	}
}

// far names

// TestFarNames asks, in each list of up to some names, for each of them.
func TestFarNames(t *testing.T) {
	const names = 90
	for _, kind := range []int{api.Let, api.Rec, api.Lam} {
		for count := 1; count <= names; count++ {
			for far := range count {
				x := variable("v" + strconv.Itoa(far))
				for i := count - 1; i >= 0; i-- {
					name := "v" + strconv.Itoa(i)
					if kind == api.Lam {
						x = node(api.App, named(api.Lam, name, x), num(i))
						continue
					}
					x = named(kind, name, num(i), x)
				}
				v, _, e := eval.Run(x, api.MaxFuel)
				if e != api.OK || !same(v, value(api.NumV, far)) {
					t.Fatalf("the name %d of %d, kind %d: %+v, %d", far, count, kind, v, e)
				}
			}
		}
	}
}

// To come to a far name doesn't take as many looks as there are nearer ones: here these would be some 2^37.
func TestVeryFarNames(t *testing.T) {
	x := variable("far")
	for range 6 {
		x = node(api.Tuple, slices.Repeat([]api.Term{x}, 8)...)
	}
	steps := term.Size(x)
	for range 700_000 {
		x = named(api.Rec, "near", num(1), x)
		steps++
	}
	v, n, e := eval.Run(named(api.Let, "far", num(2), x), api.MaxFuel)
	if e != api.OK || n != steps+2 {
		t.Fatalf("%d, %d, want %d steps", n, e, steps+2)
	}
	for range 6 {
		v = v.Parts[7]
	}
	if !same(v, value(api.NumV, 2)) {
		t.Errorf("it is %+v", v)
	}
}

// great values

// doubling is a term where x0 is a value, x1 two of these, and so on, and then there is another term.
func doubling(count int, last api.Term) api.Term {
	for i := count; i > 0; i-- {
		ahead := variable("x" + strconv.Itoa(i-1))
		last = named(api.Let, "x"+strconv.Itoa(i), node(api.Tuple, ahead, ahead), last)
	}
	return named(api.Let, "x0", num(1), last)
}

func doubled(count int) api.Value {
	v := one()
	for range count {
		v = tuple(v, v)
	}
	return v
}

func TestValuesThatDouble(t *testing.T) {
	for count := range 14 {
		x := doubling(count, variable("x"+strconv.Itoa(count)))
		wantRun(t, "doubling", x, api.MaxFuel, doubled(count), 4*count+3, api.OK)
	}
	// Where it isn't told, none is too great.
	const many = 5000
	last := variable("x" + strconv.Itoa(many))
	wantRun(t, "not told", doubling(many, num(1)), api.MaxFuel, one(), 4*many+3, api.OK)
	wantRun(t, "handed on", doubling(many, node(api.App, named(api.Lam, "y", num(1)), last)), api.MaxFuel, one(), 4*many+6, api.OK)
	wantRun(t, "kept", doubling(many, named(api.Lam, "y", last)), api.MaxFuel, fun(), 4*many+3, api.OK)
	wantRun(t, "applied", doubling(many, node(api.App, last, num(1))), api.MaxFuel, api.Value{}, 4*many+5, api.ErrStuck)
	wantRun(t, "asked", doubling(many, node(api.If, last, num(1), num(2))), api.MaxFuel, api.Value{}, 4*many+4, api.ErrStuck)
	wantRun(t, "out of fuel", doubling(many, last), 4*many+2, api.Value{}, 4*many+2, api.ErrFuel)
	// Of what is greater than anything is promised of, it ends.
	if v, n, e := eval.Run(doubling(many, last), api.MaxFuel); e != api.OK || n != 4*many+3 || len(v.Parts) != 2 {
		t.Errorf("too great: %d, %d", n, e)
	}
}

// A great value that can be laid is laid: its lists are all in memory of their own.
func TestListsOfGreatValues(t *testing.T) {
	for _, count := range []int{1, 2, 10, 20, 24} {
		v, _, e := eval.Run(doubling(count, variable("x"+strconv.Itoa(count))), api.MaxFuel)
		if e != api.OK {
			t.Fatal(e)
		}
		if ends := write(&v, 0); ends != 1<<count {
			t.Fatalf("%d values without parts, want 2^%d", ends, count)
		}
		if !written(v, new(int)) {
			t.Errorf("lists of 2^%d values share memory", count)
		}
	}
}

// write lets all values without parts be other ones, and gives how many have been so.
func write(v *api.Value, count int) int {
	if len(v.Parts) == 0 {
		v.N = count
		return count + 1
	}
	for i := range v.Parts {
		count = write(&v.Parts[i], count)
	}
	return count
}

// written tells whether all values without parts are as they were written.
func written(v api.Value, count *int) bool {
	if len(v.Parts) == 0 {
		*count++
		return v.N == *count-1
	}
	for _, part := range v.Parts {
		if !written(part, count) {
			return false
		}
	}
	return true
}

// P25.2

// isRight is what Right has to answer.
func isRight(v api.Value) bool {
	leaf := len(v.Parts) == 0
	switch v.Kind {
	case 1:
		return v.N >= 0 && v.N <= 999_999_999 && leaf
	case 2:
		return v.N >= 0 && v.N <= 1 && leaf
	case 4:
		return v.N == 0 && leaf
	}
	return v.Kind == 3 && v.N == 0 && len(v.Parts) >= 2 && len(v.Parts) <= 8 && !slices.ContainsFunc(v.Parts, func(x api.Value) bool { return !isRight(x) })
}

// values is many values, right ones and others.
func values() []api.Value {
	numbers := []int{math.MinInt, -1, 0, 1, 2, 3, 999_999_998, 999_999_999, 1_000_000_000, math.MaxInt}
	var l []api.Value
	for _, kind := range []int{math.MinInt, -1, 0, 1, 2, 3, 4, 5, 6, math.MaxInt} {
		for _, n := range numbers {
			l = append(l, value(kind, n))
		}
	}
	lists := [][]api.Value{{}, {one()}}
	for count := 2; count <= 10; count++ {
		lists = append(lists, slices.Repeat([]api.Value{one()}, count))
	}
	for _, kind := range []int{0, 1, 2, 3, 4, 5} {
		for _, parts := range lists {
			l = append(l, value(kind, 0, parts...), value(kind, 1, parts...), value(kind, -1, parts...))
		}
	}
	for _, v := range slices.Clone(l) {
		l = append(l, tuple(v, one()), tuple(one(), v), tuple(fun(), tuple(one(), v), one()), value(api.FunV, 0, v, v))
	}
	return append(l, tuple(slices.Repeat([]api.Value{tuple(fun(), one())}, 8)...))
}

func TestRight(t *testing.T) {
	rights := 0
	for _, v := range values() {
		want := isRight(v)
		if got := eval.Right(v); got != want {
			t.Errorf("%+v: %t", v, got)
		}
		text := ""
		if want {
			rights++
			text = told(v)
		}
		if got := eval.Text(v); got != text {
			t.Errorf("%+v: %q, want %q", v, got, text)
		}
	}
	if rights < 50 {
		t.Errorf("%d are right", rights)
	}
}

func TestText(t *testing.T) {
	for want, v := range map[string]api.Value{
		"0":                        value(api.NumV, 0),
		"1":                        one(),
		"10":                       value(api.NumV, 10),
		"999999999":                value(api.NumV, 999_999_999),
		"true":                     value(api.TruthV, 1),
		"false":                    value(api.TruthV, 0),
		"fun":                      fun(),
		"(1, 1)":                   tuple(one(), one()),
		"(1, fun, true)":           tuple(one(), fun(), value(api.TruthV, 1)),
		"((1, 1), (fun, 1))":       tuple(tuple(one(), one()), tuple(fun(), one())),
		"(1, (1, (1, 1), 1), fun)": tuple(one(), tuple(one(), tuple(one(), one()), one()), fun()),
		"(1, 1, 1, 1, 1, 1, 1, 1)": tuple(slices.Repeat([]api.Value{one()}, 8)...),
	} {
		if got := eval.Text(v); got != want {
			t.Errorf("%q, want %q", got, want)
		}
		if got := eval.Text(tuple(v, api.Value{})); got != "" {
			t.Errorf("%q of what isn't right", got)
		}
	}
}

// isOne is what Has has to answer.
func isOne(v api.Value, u api.Type) bool {
	if !isRight(v) || !types.Right(u) {
		return false
	}
	switch v.Kind {
	case api.NumV:
		return u.Kind == api.TInt
	case api.TruthV:
		return u.Kind == api.TBool
	case api.FunV:
		return u.Kind == api.TArrow
	}
	return u.Kind == api.TTuple && slices.EqualFunc(v.Parts, u.Parts, isOne)
}

// smallTypes is types, right ones and others.
func smallTypes() []api.Type {
	l := []api.Type{
		number(), truth(), types.Var(0), types.Var(1<<30 - 1),
		{}, typ(6, 0), typ(-1, 0), typ(api.TInt, 1), typ(api.TBool, 1), types.Var(-1), types.Var(1 << 30),
		typ(api.TInt, 0, number()), typ(api.TBool, 0, truth(), truth()), typ(api.TVar, 0, number()), typ(api.TArrow, 0), typ(api.TTuple, 0),
	}
	for _, a := range slices.Clone(l) {
		l = append(l, arrow(a, number()), arrow(number(), a), typ(api.TArrow, 1, a, a), typ(api.TArrow, 0, a), typ(api.TArrow, 0, a, a, a))
		for count := 1; count <= 9; count++ {
			l = append(l, typ(api.TTuple, 0, slices.Repeat([]api.Type{a}, count)...))
		}
		l = append(l, typ(api.TTuple, 0, a, number()), typ(api.TTuple, 0, number(), a), typ(api.TTuple, 0, number(), typ(api.TTuple, 0, a, arrow(a, a))), typ(api.TTuple, 1, a, a))
	}
	return l
}

func TestHas(t *testing.T) {
	has := 0
	for _, v := range values() {
		for _, u := range smallTypes() {
			want := isOne(v, u)
			if got := eval.Has(v, u); got != want {
				t.Errorf("%+v of %+v: %t", v, u, got)
			}
			if want {
				has++
			}
		}
	}
	if has < 80 {
		t.Errorf("%d have the type", has)
	}
}

func TestHasOfTexts(t *testing.T) {
	for _, c := range []struct {
		s, u string
		want bool
	}{
		{"1", "int", true},
		{"1", "bool", false},
		{"1", "'a", false},
		{"1", "int -> int", false},
		{"1", "(int * int)", false},
		{"true", "bool", true},
		{"true", "int", false},
		{"false", "bool", true},
		{"fun x -> x", "int -> int", true},
		{"fun x -> x", "'a -> 'b", true},
		{"fun x -> x", "int -> bool", true}, // as far as it shows
		{"fun x -> x", "int", false},
		{"fun x -> x", "'a", false},
		{"fun x -> x", "(int * int)", false},
		{"(1, true)", "(int * bool)", true},
		{"(1, true)", "(bool * int)", false},
		{"(1, true)", "(int * 'a)", false},
		{"(1, true)", "(int * bool * int)", false},
		{"(1, true, 2)", "(int * bool)", false},
		{"(1, true, 2)", "(int * bool * int)", true},
		{"(1, (true, 2))", "(int * (bool * int))", true},
		{"(1, (true, 2))", "((int * bool) * int)", false},
		{"(1, (true, 2))", "(int * bool * int)", false},
		{"(1, (true, 2))", "(int * (bool * int * int))", false},
		{"(1, fun x -> x)", "(int * (int -> (int * int)))", true},
		{"(1, fun x -> x)", "(int * int)", false},
		{"(1, 2, 3, 4, 5, 6, 7, 8)", "(int * int * int * int * int * int * int * int)", true},
		{"(1, 2, 3, 4, 5, 6, 7, true)", "(int * int * int * int * int * int * int * int)", false},
	} {
		v, _, e := eval.Run(read(t, c.s), api.MaxFuel)
		if e != api.OK {
			t.Fatal(c.s, e)
		}
		if got := eval.Has(v, typed(t, c.u)); got != c.want {
			t.Errorf("%s of %s: %t", c.s, c.u, got)
		}
	}
}

func TestSame(t *testing.T) {
	l := append(values(),
		value(9, 4, value(8, 3, value(7, 2), one()), one()),
		value(9, 4, value(8, 3, value(7, 1), one()), one()),
		value(9, 4, value(8, 3, value(7, 2), fun()), one()),
		value(9, 4, value(8, 3, value(7, 2), one()), fun()),
		value(9, 4, value(8, 3, value(7, 2), one(), one()), one()),
		value(9, 4, value(8, 3, value(7, 2, one()), one()), one()),
	)
	for _, a := range l {
		for _, b := range l {
			if got := eval.Same(a, b); got != same(a, b) {
				t.Errorf("%+v and %+v: %t", a, b, got)
			}
		}
	}
}

// An empty list is the same as none.
func TestEmptyLists(t *testing.T) {
	for _, v := range []api.Value{one(), fun(), value(api.TruthV, 1), value(api.TupleV, 0), {}} {
		other := v
		other.Parts = make([]api.Value, 0, 3)
		if !eval.Same(v, other) || !eval.Same(other, v) || eval.Right(other) != eval.Right(v) || eval.Text(other) != eval.Text(v) || eval.Has(other, number()) != eval.Has(v, number()) {
			t.Errorf("%+v without parts", v)
		}
	}
}

// Values that differ in one field alone, however deep.
func TestOneFieldAlone(t *testing.T) {
	by := begin(4)
	for range 20000 {
		v := by.value(by.IntN(5))
		other := copied(v)
		if !eval.Same(v, other) || !eval.Right(v) || eval.Text(v) != told(v) {
			t.Fatalf("%+v", v)
		}
		x := by.inside(&other)
		switch by.IntN(4) {
		case 0:
			x.Kind += 1 + by.IntN(3)
		case 1:
			x.N += 1 + by.IntN(3)
		case 2:
			x.Parts = append(x.Parts, one())
		case 3:
			if len(x.Parts) > 0 {
				x.Parts = x.Parts[1:]
			}
		}
		if got := eval.Same(v, other); got != same(v, other) {
			t.Fatalf("%+v and %+v: %t", v, other, got)
		}
		if got := eval.Right(other); got != isRight(other) {
			t.Fatalf("%+v: right: %t", other, got)
		}
	}
}

func (c chance) value(depth int) api.Value {
	switch n := c.IntN(6); {
	case n == 0 || depth == 0:
		return value(api.NumV, c.IntN(3))
	case n == 1:
		return value(api.TruthV, c.IntN(2))
	case n == 2:
		return fun()
	}
	v := tuple(c.value(depth-1), c.value(depth-1))
	for range c.IntN(3) {
		v.Parts = append(v.Parts, c.value(depth-1))
	}
	return v
}

// inside is some value of those that one is made of.
func (c chance) inside(v *api.Value) *api.Value {
	for len(v.Parts) > 0 && c.IntN(4) > 0 {
		v = &v.Parts[c.IntN(len(v.Parts))]
	}
	return v
}

// copied is the same value, in memory of its own.
func copied(v api.Value) api.Value {
	var parts []api.Value
	for _, part := range v.Parts {
		parts = append(parts, copied(part))
	}
	v.Parts = parts
	return v
}

// Values that stand in themselves aren't ones that a term is worth; that they are asked for ends.

// round is a value that stands in itself: below some levels it goes round some more, at some part.
func round(ahead, around, part int) api.Value {
	parts := func(inner api.Value) []api.Value {
		l := []api.Value{one(), one(), one()}
		l[part] = inner
		return l
	}
	last := parts(one())
	v := api.Value{Kind: api.TupleV, Parts: last}
	for range around - 1 {
		v = api.Value{Kind: api.TupleV, Parts: parts(v)}
	}
	last[part] = v
	for range ahead {
		v = api.Value{Kind: api.TupleV, Parts: parts(v)}
	}
	return v
}

func TestValuesInThemselves(t *testing.T) {
	pair := typ(api.TTuple, 0, number(), number(), number())
	for ahead := range 20 {
		for around := 1; around < 20; around++ {
			for part := range 3 {
				v := round(ahead, around, part)
				if eval.Right(v) || eval.Text(v) != "" || eval.Has(v, pair) || eval.Right(tuple(one(), v)) {
					t.Fatalf("round %d, %d, %d", ahead, around, part)
				}
				eval.Same(v, v)
				if eval.Same(v, tuple(one(), one(), one())) || eval.Same(tuple(one(), one(), one()), v) || eval.Same(v, round(ahead, around, (part+1)%3)) {
					t.Fatalf("round %d, %d, %d is the same as others", ahead, around, part)
				}
			}
		}
	}
	both := []api.Value{{}, {}}
	both[0], both[1] = tuple(both...), tuple(both...)
	both[0].Parts, both[1].Parts = both, both
	if v := (api.Value{Kind: api.TupleV, Parts: both}); eval.Right(v) || eval.Text(v) != "" || eval.Same(v, tuple(v, one())) {
		t.Error("both parts")
	}
	three := []api.Value{{}, one(), one()}
	three[0] = api.Value{Kind: api.TupleV, Parts: three[:2]}
	if v := (api.Value{Kind: api.TupleV, Parts: three}); eval.Right(v) || eval.Text(v) != "" {
		t.Error("a piece of its list")
	}
	alone := []api.Value{{}}
	alone[0].Parts = alone
	eval.Same(alone[0], alone[0])
	if eval.Right(alone[0]) {
		t.Error("one part")
	}
}

// Values whose parts share lists, but that end, are as others.
func TestSharedLists(t *testing.T) {
	v, u, text := one(), number(), "1"
	for count := range 12 {
		v, u, text = tuple(v, v, v), typ(api.TTuple, 0, u, u, u), "("+text+", "+text+", "+text+")"
		if !eval.Right(v) || eval.Text(v) != text || !eval.Has(v, u) || !eval.Same(v, v) || eval.Same(v, tuple(v, v, v)) {
			t.Fatalf("%d levels", count+1)
		}
	}
}

// Rule 4

// scribble changes whatever a value's memory holds, its spare room too.
func scribble(v *api.Value) {
	for i := range v.Parts {
		scribble(&v.Parts[i])
	}
	_ = append(v.Parts, value(78, 78))
	*v = value(79, 79)
}

// sample is the text of a term whose value has parts that were one.
const sample = "let a = (1, true) in let b = (a, fun x -> a, a) in let rec f = fun p -> if p then f false else (b, (a, a)) in (f true, b, f false)"

func TestAnswersAreNewMemory(t *testing.T) {
	x := read(t, sample)
	before := term.Copy(x)
	first, _, e := eval.Run(x, api.MaxFuel)
	if e != api.OK {
		t.Fatal(e)
	}
	want := copied(first)
	for i := range want.Parts {
		for j := range want.Parts[i].Parts {
			v, _, _ := eval.Run(x, api.MaxFuel)
			scribble(&v.Parts[i].Parts[j])
			v.Parts[i].Parts[j] = copied(want.Parts[i].Parts[j])
			if !same(v, want) {
				t.Errorf("the part %d of the part %d shares memory", j, i)
			}
		}
		v, _, _ := eval.Run(x, api.MaxFuel)
		_ = append(v.Parts[i].Parts, value(78, 78))
		if !same(v, want) {
			t.Errorf("the part %d has room that isn't its own", i)
		}
	}
	v, _, _ := eval.Run(x, api.MaxFuel)
	scribble(&v)
	again, _, _ := eval.Run(x, api.MaxFuel)
	if !same(first, want) || !same(again, want) || !term.Equal(x, before) {
		t.Error("Run answers memory that isn't new")
	}
}

func TestWhatIsHandedInStays(t *testing.T) {
	x := read(t, sample)
	before := term.Copy(x)
	v, _, _ := eval.Run(x, api.MaxFuel)
	u, e := infer.Type(x)
	if e != api.OK {
		t.Fatal(e)
	}
	kept, keptType := copied(v), types.Copy(u)
	if !eval.Right(v) || eval.Text(v) != told(kept) || !eval.Has(v, u) || !eval.Same(v, kept) {
		t.Error("the sample's value")
	}
	if !term.Equal(x, before) || !same(v, kept) || !types.Same(u, keptType) {
		t.Error("what is handed in is changed")
	}
}

// deep ones

func TestDeepTerms(t *testing.T) {
	defer debug.SetMaxStack(debug.SetMaxStack(1 << 19))
	yes, x := api.Term{Kind: api.Bool, N: 1}, variable("x")
	for what, c := range map[string]struct {
		around func(inner api.Term) api.Term
		steps  int // of each level
		kind   int // of the value
	}{
		"functions, applied":    {func(y api.Term) api.Term { return node(api.App, named(api.Lam, "y", y), x) }, 3, api.NumV},
		"functions":             {func(y api.Term) api.Term { return named(api.Lam, "y", y) }, 0, api.FunV},
		"applied":               {func(y api.Term) api.Term { return node(api.App, named(api.Lam, "y", variable("y")), y) }, 3, api.NumV},
		"within let":            {func(y api.Term) api.Term { return named(api.Let, "y", y, variable("y")) }, 2, api.NumV},
		"within let, not meant": {func(y api.Term) api.Term { return named(api.Let, "y", y, x) }, 2, api.NumV},
		"let":                   {func(y api.Term) api.Term { return named(api.Let, "x", x, y) }, 2, api.NumV},
		"within let rec":        {func(y api.Term) api.Term { return named(api.Rec, "y", y, variable("y")) }, 2, api.NumV},
		"let rec":               {func(y api.Term) api.Term { return named(api.Rec, "y", x, y) }, 1, api.NumV},
		"if":                    {func(y api.Term) api.Term { return node(api.If, yes, y, x) }, 2, api.NumV},
		"else":                  {func(y api.Term) api.Term { return node(api.If, api.Term{Kind: api.Bool}, x, y) }, 2, api.NumV},
		"annotated":             {func(y api.Term) api.Term { return ann(y, truth()) }, 1, api.NumV},
		"tuples, first part":    {func(y api.Term) api.Term { return node(api.Tuple, y, x) }, 2, api.TupleV},
		"tuples, last part":     {func(y api.Term) api.Term { return node(api.Tuple, x, y) }, 2, api.TupleV},
		"tuples, in let":        {func(y api.Term) api.Term { return named(api.Let, "x", node(api.Tuple, x, x), y) }, 4, 0},
	} {
		y := x
		for range deep {
			y = c.around(y)
		}
		y = named(api.Let, "x", num(1), y)
		steps := 3 + deep*c.steps
		v, n, e := eval.Run(y, api.MaxFuel)
		if n != steps || e != api.OK || c.kind != 0 && v.Kind != c.kind {
			t.Errorf("%s: kind %d, %d steps, %d, want kind %d, %d steps", what, v.Kind, n, e, c.kind, steps)
		}
		if c.kind != 0 && (!eval.Right(v) || !eval.Same(v, v) || eval.Text(v) == "") {
			t.Errorf("%s: its value", what)
		}
		wantRun(t, what+", too little fuel", y, steps-1, api.Value{}, steps-1, api.ErrFuel)
		wantRun(t, what+", free", node(api.Tuple, y, x), api.MaxFuel, api.Value{}, 0, api.ErrScope)
		wantRun(t, what+", wrong", node(api.Tuple, y, api.Term{}), api.MaxFuel, api.Value{}, 0, api.ErrArg)
		wantRun(t, what+", stuck", node(api.App, node(api.App, num(1), num(2)), y), api.MaxFuel, api.Value{}, 4, api.ErrStuck)
	}
	stuck, never := read(t, "1 2"), read(t, "let rec f = fun x -> (1, f x) in f 1")
	for range deep {
		stuck, never = node(api.Tuple, num(1), stuck), node(api.Tuple, num(1), never)
	}
	wantRun(t, "stuck, deep", stuck, api.MaxFuel, api.Value{}, 2*deep+3, api.ErrStuck)
	wantRun(t, "never ends, deep", never, api.MaxFuel, api.Value{}, api.MaxFuel, api.ErrFuel)
}

func TestDeepValues(t *testing.T) {
	defer debug.SetMaxStack(debug.SetMaxStack(1 << 19))
	for part := range 3 {
		nest := func(levels int, last api.Value, kind api.Type) (api.Value, api.Type) {
			for range levels {
				l, k := []api.Value{one(), one(), one()}, []api.Type{number(), number(), number()}
				l[part], k[part] = last, kind
				last, kind = tuple(l...), typ(api.TTuple, 0, k...)
			}
			return last, kind
		}
		v, u := nest(deep, fun(), arrow(number(), number()))
		text := strings.Repeat("(", deep) + "fun" + strings.Repeat(", 1, 1)", deep)
		if part > 0 {
			between := strings.Repeat("1, ", part)
			text = strings.Repeat("("+between, deep) + "fun" + strings.Repeat(strings.Repeat(", 1", 2-part)+")", deep)
		}
		if !eval.Right(v) || !eval.Has(v, u) || !eval.Same(v, v) || eval.Text(v) != text {
			t.Errorf("deep at the part %d", part)
		}
		other, otherType := nest(deep, one(), number())
		if eval.Has(v, otherType) || eval.Has(other, u) || eval.Same(v, other) || !eval.Has(other, otherType) {
			t.Errorf("deep at the part %d, and other at its end", part)
		}
		wrong, _ := nest(deep, value(api.FunV, 1), number())
		if eval.Right(wrong) || eval.Text(wrong) != "" || eval.Has(wrong, u) || !eval.Same(wrong, wrong) {
			t.Errorf("deep at the part %d, and wrong at its end", part)
		}
		longer, longerType := nest(deep+1, fun(), arrow(number(), number()))
		if eval.Same(v, longer) || eval.Same(longer, v) || eval.Has(v, longerType) || eval.Has(longer, u) {
			t.Errorf("deep at the part %d, and one deeper", part)
		}
		_, wrongType := nest(deep, fun(), api.Type{})
		if eval.Has(v, wrongType) {
			t.Errorf("deep at the part %d, of a type that isn't right", part)
		}
	}
}
