package infer_test

import (
	"maps"
	"math"
	"math/rand/v2"
	"runtime/debug"
	"slices"
	"strconv"
	"testing"

	"pangram/api"
	"pangram/eqs"
	"pangram/infer"
	"pangram/parse"
	"pangram/pretty"
	"pangram/scheme"
	"pangram/scope"
	"pangram/signature"
	"pangram/solve"
	"pangram/subst"
	"pangram/term"
	"pangram/types"
)

const deep = 1 << 13 // levels: calls within calls as deep would take more than the stack that TestDeepTerms gives

func variable(name string) api.Term { return api.Term{Kind: api.Var, Name: name} }

func num(n int) api.Term { return api.Term{Kind: api.Int, N: n} }

func node(kind int, parts ...api.Term) api.Term { return api.Term{Kind: kind, Parts: parts} }

func named(kind int, name string, parts ...api.Term) api.Term {
	return api.Term{Kind: kind, Name: name, Parts: parts}
}

func ann(x api.Term, t api.Type) api.Term {
	return api.Term{Kind: api.Ann, Type: t, Parts: []api.Term{x}}
}

func typ(kind, n int, parts ...api.Type) api.Type {
	return api.Type{Kind: kind, N: n, Parts: parts}
}

func v(n int) api.Type { return typ(api.TVar, n) }

func number() api.Type { return typ(api.TInt, 0) }

func truth() api.Type { return typ(api.TBool, 0) }

func arrow(a, b api.Type) api.Type { return typ(api.TArrow, 0, a, b) }

func tuple(parts ...api.Type) api.Type { return typ(api.TTuple, 0, parts...) }

// read is the term of a text.
func read(t *testing.T, s string) api.Term {
	t.Helper()
	x, _, e := parse.Term(s, math.MaxInt)
	if e != api.OK {
		t.Fatalf("no term: %q", s)
	}
	return x
}

// typed is the type of a text.
func typed(t *testing.T, s string) api.Type {
	t.Helper()
	u, e := signature.Parse(s)
	if e != api.OK {
		t.Fatalf("no type: %q", s)
	}
	return u
}

// told is the types of a term's terms as texts, or the error.
func told(l []api.Type, e api.Errno) []string {
	if e != api.OK {
		return []string{strconv.Itoa(int(e))}
	}
	var texts []string
	for _, u := range l {
		texts = append(texts, types.Print(u))
	}
	return texts
}

func sameTypes(a, b []api.Type) bool {
	return slices.EqualFunc(a, b, types.Same)
}

// copied is the same types, in memory of their own.
func copied(l []api.Type) []api.Type {
	var same []api.Type
	for _, u := range l {
		same = append(same, types.Copy(u))
	}
	return same
}

// wantError wants an error of all calls, and that the term isn't typable.
func wantError(t *testing.T, what string, x api.Term, want api.Errno) {
	t.Helper()
	if u, e := infer.Type(x); e != want || !types.Same(u, api.Type{}) {
		t.Errorf("%s: Type: %v, %v, want %v", what, u, e, want)
	}
	if l, e := infer.Types(x); e != want || len(l) != 0 {
		t.Errorf("%s: Types: %v, %v, want %v", what, l, e, want)
	}
	if s, e := infer.Scheme(x); e != want || s != "" {
		t.Errorf("%s: Scheme: %q, %v, want %v", what, s, e, want)
	}
	if infer.Typable(x) {
		t.Errorf("%s: typable", what)
	}
	for _, u := range []api.Type{v(0), {}} {
		if infer.Fits(x, u) {
			t.Errorf("%s: fits %v", what, u)
		}
	}
}

// wantType wants a principal type of all calls.
func wantType(t *testing.T, what string, x api.Term, want string) {
	t.Helper()
	u, e := infer.Type(x)
	if e != api.OK || types.Print(u) != want {
		t.Errorf("%s: Type: %s, %v, want %s", what, types.Print(u), e, want)
		return
	}
	if s, e := infer.Scheme(x); e != api.OK || s != want {
		t.Errorf("%s: Scheme: %s, %v, want %s", what, s, e, want)
	}
	if l, e := infer.Types(x); e == api.OK && !types.Same(l[0], u) || e != api.OK && e != api.ErrMany {
		t.Errorf("%s: Types: %v, %v, want %s", what, told(l, e), e, want)
	}
	if !infer.Typable(x) {
		t.Errorf("%s: not typable", what)
	}
	other := arrow(u, u)
	if u.Kind == api.TArrow {
		other = tuple(u, u)
	}
	if !infer.Fits(x, u) || infer.Fits(x, other) != (u.Kind == api.TVar) {
		t.Errorf("%s: Fits", what)
	}
}

// The type of a term, a second way: by its equations, as layer 17 tells them.

// owner gives each term, in order, its own variable, by calls within calls.
type owner struct {
	own  []int
	next int
}

// number goes through a term. Of each name it is known how many variables are taken where it is meant.
func (o *owner) number(x api.Term, around map[string]int) {
	o.own = append(o.own, o.next)
	o.next++
	with := func(name string, again int) map[string]int {
		inside := maps.Clone(around)
		inside[name] = again
		return inside
	}
	switch x.Kind {
	case api.Var:
		o.next += around[x.Name]
	case api.Lam:
		o.next++
		o.number(x.Parts[0], with(x.Name, 0))
	case api.Let:
		first := o.next
		o.number(x.Parts[0], around)
		o.number(x.Parts[1], with(x.Name, o.next-first))
	case api.Rec:
		first := o.next
		o.next++
		o.number(x.Parts[0], with(x.Name, 0))
		o.number(x.Parts[1], with(x.Name, o.next-first))
	default:
		for _, part := range x.Parts {
			o.number(part, around)
		}
	}
}

// secondly is the types of a right closed term's terms, and whether it has some; and false, if there are too many equations, or types too great.
func secondly(x api.Term) (l []api.Type, has, known bool) {
	const some, great = 1500, 1 << 12
	equations, e := eqs.Of(x, some)
	if e != api.OK {
		return nil, false, false
	}
	solution, e := solve.Solve(great, equations...)
	if e != api.OK {
		return nil, false, e != api.ErrMany
	}
	var o owner
	o.number(x, map[string]int{})
	all := api.Type{}
	for _, own := range o.own {
		all.Parts = append(all.Parts, subst.Apply(solution, v(own)))
	}
	return types.Canon(all).Parts, true, true
}

// hold holds a right closed term's types against those that come a second way, and tells whether it has some.
func hold(t *testing.T, x api.Term) bool {
	t.Helper()
	want, has, known := secondly(x)
	if !known {
		return false
	}
	if !has {
		wantError(t, pretty.Print(x), x, api.ErrClash)
		return false
	}
	if got, e := infer.Types(x); e != api.OK || !sameTypes(got, want) {
		t.Fatalf("Types(%s) = %q, want %q", pretty.Print(x), told(got, e), told(want, api.OK))
	}
	wantType(t, pretty.Print(x), x, types.Print(want[0]))
	return true
}

// P21.1

func TestType(t *testing.T) {
	for text, want := range map[string]string{
		"1":                                       "int",
		"false":                                   "bool",
		"fun x -> x":                              "'a -> 'a",
		"fun x -> fun y -> x":                     "'a -> 'b -> 'a",
		"fun x -> fun y -> y":                     "'a -> 'b -> 'b",
		"fun y -> fun x -> x":                     "'a -> 'b -> 'b",
		"fun x -> fun x -> x":                     "'a -> 'b -> 'b",
		"fun f -> fun x -> f x":                   "('a -> 'b) -> 'a -> 'b",
		"fun f -> fun g -> fun x -> f (g x)":      "('a -> 'b) -> ('c -> 'a) -> 'c -> 'b",
		"fun f -> fun x -> f (f x)":               "('a -> 'a) -> 'a -> 'a",
		"(fun x -> x) 1":                          "int",
		"(1, true, fun x -> x)":                   "(int * bool * ('a -> 'a))",
		"(fun x -> x, fun x -> x)":                "(('a -> 'a) * ('b -> 'b))",
		"fun p -> if p then p else true":          "bool -> bool",
		"fun p -> fun x -> if p then x else x":    "bool -> 'a -> 'a",
		"fun p -> fun x -> if p then 1 else x":    "bool -> int -> int",
		"fun x -> (x : int)":                      "int -> int",
		"(fun x -> x : bool -> bool)":             "bool -> bool",
		"(fun f -> f 1 : (int -> bool) -> bool)":  "(int -> bool) -> bool",
		"(1, 2, 3, 4, 5, 6, 7, fun x -> (x, x))":  "(int * int * int * int * int * int * int * ('a -> ('a * 'a)))",
		"fun x -> fun y -> fun z -> x z (y z)":    "('a -> 'b -> 'c) -> ('a -> 'b) -> 'a -> 'c",
		"fun x -> if true then x else (1, false)": "(int * bool) -> (int * bool)",
	} {
		wantType(t, text, read(t, text), want)
		hold(t, read(t, text))
	}
}

func TestTypeOfLet(t *testing.T) {
	for text, want := range map[string]string{
		// meant many times, once, never
		"let i = fun x -> x in (i 1, i true)":                           "(int * bool)",
		"let i = fun x -> x in i i i i i i i i":                         "'a -> 'a",
		"let i = fun x -> x in i":                                       "'a -> 'a",
		"let i = fun x -> x in 1":                                       "int",
		"let i = fun x -> x in (i, i, i)":                               "(('a -> 'a) * ('b -> 'b) * ('c -> 'c))",
		"let k = fun x -> fun y -> x in (k 1 true, k true 1)":           "(int * bool)",
		"let c = fun f -> fun g -> fun x -> f (g x) in c c c":           "('a -> 'b) -> ('c -> 'd -> 'a) -> 'c -> 'd -> 'b",
		"let d = fun x -> (x, x) in d (d 1)":                            "((int * int) * (int * int))",
		"let d = fun f -> fun x -> f (f x) in d d d":                    "('a -> 'a) -> 'a -> 'a",
		"let n = 1 in (n, n)":                                           "(int * int)",
		"let p = (fun x -> x, 1) in (p, p)":                             "((('a -> 'a) * int) * (('b -> 'b) * int))",
		"let a = (fun x -> x : int -> int) in (a, a 1)":                 "((int -> int) * int)",
		"let f = (fun x -> fun y -> (x, (fun z -> z) y) ) in (f 1, f)":  "(('a -> (int * 'a)) * ('b -> 'c -> ('b * 'c)))",
		"let f = fun x -> (x, 1, (fun y -> (y : int -> bool))) in f f":  "(('a -> ('a * int * ((int -> bool) -> int -> bool))) * int * ((int -> bool) -> int -> bool))",
		"let a = fun x -> x in let b = a in let c = b in (c 1, c true)": "(int * bool)",
		// a Let in a Let's first part
		"let a = let i = fun x -> x in (i 1, i) in (a, a)":                        "((int * ('a -> 'a)) * (int * ('b -> 'b)))",
		"let a = let b = let c = fun x -> x in c c in b b in (a 1, a true)":       "(int * bool)",
		"let a = fun y -> let b = fun x -> (x, y) in (b 1, b true) in (a 1, a)":   "(((int * int) * (bool * int)) * ('a -> ((int * 'a) * (bool * 'a))))",
		"let a = fun y -> let b = y in let c = b in c in (a 1, a true)":           "(int * bool)",
		"let p = let i = fun x -> x in (i, i) in fun f -> (p, p)":                 "'a -> ((('b -> 'b) * ('c -> 'c)) * (('d -> 'd) * ('e -> 'e)))",
		"let a = let rec f = fun x -> f x in f in ((a 1 : bool), (a true : int))": "(bool * int)",
		// that speaks of what stands around
		"fun x -> let y = x in (y, y)":                                                         "'a -> ('a * 'a)",
		"fun x -> let y = x in (y 1, y 2)":                                                     "(int -> 'a) -> ('a * 'a)",
		"fun x -> let y = x in fun z -> if true then y else z":                                 "'a -> 'a -> 'a",
		"fun x -> let y = fun z -> x in (y 1, y true)":                                         "'a -> ('a * 'a)",
		"fun x -> let y = fun z -> (x, z) in (y 1, y true)":                                    "'a -> (('a * int) * ('a * bool))",
		"fun x -> let y = fun z -> x z in (y 1, y 2)":                                          "(int -> 'a) -> ('a * 'a)",
		"fun x -> let y = fun z -> x in let w = fun u -> y u in (w 1, x)":                      "'a -> ('a * 'a)",
		"fun x -> let y = fun z -> if true then x else z in (y 1, x)":                          "int -> (int * int)",
		"fun f -> let g = fun x -> f (fun z -> x) in g":                                        "(('a -> 'b) -> 'c) -> 'b -> 'c",
		"fun f -> let g = f 1 in let h = g true in (g, h)":                                     "(int -> bool -> 'a) -> ((bool -> 'a) * 'a)",
		"fun x -> fun y -> let z = (x, y, fun u -> u) in let w = z in (w, x 1)":                "(int -> 'a) -> 'b -> (((int -> 'a) * 'b * ('c -> 'c)) * 'a)",
		"fun x -> let a = (let b = x in fun u -> (b, u)) in (a 1, a true, if x then 1 else 2)": "bool -> ((bool * int) * (bool * bool) * int)",
		"fun x -> (let y = x in y, let y = x in y 1)":                                          "(int -> 'a) -> ((int -> 'a) * 'a)",
		// a binder whose name is another one's around it
		"let x = 1 in let x = true in x":                    "bool",
		"let x = 1 in let x = (x, x) in (x, x)":             "((int * int) * (int * int))",
		"fun x -> let x = fun y -> x in x":                  "'a -> 'b -> 'a",
		"fun x -> let x = fun x -> x in (x 1, x true)":      "'a -> (int * bool)",
		"let x = fun x -> x in fun y -> (x y, x 1)":         "'a -> ('a * int)",
		"(let x = fun y -> y in (x 1, x true), fun x -> x)": "((int * bool) * ('a -> 'a))",
		"let i = fun x -> x in (fun i -> i 1) i":            "int",
	} {
		wantType(t, text, read(t, text), want)
		hold(t, read(t, text))
	}
}

func TestTypeOfRec(t *testing.T) {
	for text, want := range map[string]string{
		// in its first part, and in its second one
		"let rec f = fun x -> f x in f":                                                "'a -> 'b",
		"let rec f = fun x -> f x in (f 1, f true)":                                    "('a * 'b)",
		"let rec f = fun x -> f x in f f f":                                            "'a",
		"let rec f = f in f":                                                           "'a",
		"let rec f = f in (f 1, f true, f)":                                            "('a * 'b * 'c)",
		"let rec f = 1 in f":                                                           "int",
		"let rec f = fun x -> x in (f 1, f true)":                                      "(int * bool)",
		"let rec f = fun x -> if x then 1 else f true in f":                            "bool -> int",
		"let rec f = fun x -> fun y -> f y x in f":                                     "'a -> 'a -> 'b",
		"let rec f = fun x -> 1 in 2":                                                  "int",
		"let rec f = (fun x -> x : int -> int) in f":                                   "int -> int",
		"let rec f = fun x -> let y = f in y x in (f 1, f true)":                       "('a * 'b)",
		"let rec f = let g = fun x -> f in g 1 in f":                                   "'a",
		"let rec f = let g = fun x -> (fun z -> x) f in fun y -> g y in (f 1, f true)": "(int * bool)",
		"let rec f = fun x -> let rec g = fun y -> f y in g x in (f, f 1)":             "(('a -> 'b) * 'c)",
		"let rec f = fun f -> f in (f 1, f true)":                                      "(int * bool)",
		"let rec f = fun x -> let rec f = fun y -> y in (f 1, f x) in f":               "'a -> (int * 'a)",
		"fun y -> let rec f = fun x -> (let z = y in z) in (f 1, f true)":              "'a -> ('a * 'a)",
		"fun y -> let rec f = fun x -> if true then y else f x in (f 1, f true)":       "'a -> ('a * 'a)",
		"fun y -> let rec f = y in (f, f)":                                             "'a -> ('a * 'a)",
		"let rec f = let g = f in fun x -> g x in (f 1, f true)":                       "('a * 'b)",
	} {
		wantType(t, text, read(t, text), want)
		hold(t, read(t, text))
	}
}

func TestNoType(t *testing.T) {
	for _, text := range []string{
		"1 2",
		"true true",
		"(1, 2) 3",
		"fun f -> (f 1, f true)",
		"if 1 then 2 else 3",
		"if true then 1 else true",
		"if true then (1, 2) else (1, 2, 3)",
		"if true then fun x -> x else 1",
		"(1 : bool)",
		"(fun x -> x : int -> bool)",
		"((1, 2) : (int * int * int))",
		"fun x -> (x 1, (x : bool))",
		// what would be of itself
		"fun x -> x x",
		"fun x -> let y = x in y y",
		"let w = fun x -> x x in 1",
		"let rec f = fun x -> f in f",
		"let rec f = fun x -> (f x) f in f",
		"let rec f = (f, 1) in f",
		"let rec f = (f, 1) in 2",
		"fun x -> if true then x else (x, x)",
		"fun f -> fun x -> if true then f x else f",
		"fun x -> let y = fun z -> x z in y x",
		"fun x -> let y = (let z = x in fun u -> z) in y 1 x",
		"let i = fun x -> x in fun y -> i y y",
		// a Let that is meant, and one that isn't
		"let a = 1 true in 2",
		"let a = 1 in a a",
		"let a = fun x -> (x 1, x true) in 2",
		"let rec f = 1 true in 2",
		"let rec f = (f 1, 2) in 2",
		"let a = let b = 1 in b 2 in 3",
		// a Var within its Rec's first part is of one type alone
		"let rec f = fun x -> (f 1, f true) in f",
		"let rec f = fun x -> if true then f 1 else f true in 1",
		"let rec f = let g = f in fun x -> if true then g 1 else g true in 1",
		// a Let's first part that speaks of what is around it
		"fun x -> let y = x in (y 1, y true)",
		"fun x -> let y = fun z -> x z in (y 1, y true)",
		"fun x -> let y = (x, fun z -> z) in if true then x 1 else (x true : int)",
		"fun x -> let y = fun z -> if true then x else z in (y 1, y true)",
		"fun x -> (let y = x in y 1, let z = x in z true)",
		"fun x -> let a = let b = x in fun u -> b in (a 1 1, a 1 true)",
		"let i = fun x -> x in fun i -> (i 1, i true)",
		"fun f -> let g = f 1 in (g 1, g true)",
		"fun x -> let y = fun z -> (let w = z in x w) in (y 1, y true)",
		"(let a = let rec f = fun x -> f x in f in (a 1 : bool)) 1",
	} {
		wantError(t, text, read(t, text), api.ErrClash)
		hold(t, read(t, text))
	}
}

// wrongTerms is terms that aren't right, by what is wrong with them.
func wrongTerms() map[string]api.Term {
	x := variable("x")
	l := map[string]api.Term{
		"the zero one":                      {},
		"a kind above 10":                   named(11, "x", x),
		"a kind below 0":                    named(-1, "x", x),
		"no name":                           variable(""),
		"a word as name":                    variable("let"),
		"a variable below 0":                {Kind: api.Var, Name: "x", N: -1},
		"a variable with parts":             named(api.Var, "x", x),
		"a number below 0":                  num(-1),
		"a number of ten digits":            num(1_000_000_000),
		"a truth of 2":                      {Kind: api.Bool, N: 2},
		"a function without parts":          named(api.Lam, "x"),
		"a function of two":                 named(api.Lam, "x", x, x),
		"let of one":                        named(api.Let, "x", num(1)),
		"let rec of three":                  named(api.Rec, "x", x, x, x),
		"an application of one":             node(api.App, num(1)),
		"if of two":                         node(api.If, num(1), num(2)),
		"a tuple of one":                    node(api.Tuple, num(1)),
		"a tuple of nine":                   node(api.Tuple, slices.Repeat([]api.Term{num(1)}, 9)...),
		"an annotation of no type":          node(api.Ann, num(1)),
		"an annotation with a variable":     ann(num(1), arrow(number(), v(0))),
		"an annotation that isn't right":    ann(num(1), arrow(number(), api.Type{})),
		"a type where there is none":        {Kind: api.Int, Type: number()},
		"a part where there is none":        node(api.Int, num(1)),
		"a free name ahead of what's wrong": node(api.App, variable("free"), node(api.Tuple)),
		"no type ahead of what's wrong":     node(api.App, node(api.App, num(1), num(1)), node(api.Tuple)),
	}
	for what, y := range maps.Clone(l) {
		l[what+", inside"] = named(api.Lam, "x", node(api.App, num(1), y))
	}
	return l
}

func TestWrongTerms(t *testing.T) {
	for what, x := range wrongTerms() {
		wantError(t, what, x, api.ErrArg)
	}
}

func TestFreeNames(t *testing.T) {
	for _, text := range []string{
		"x", "f 1", "fun x -> y", "let x = x in x", "(fun x -> x, x)", "(let x = 1 in x, x)", "(let rec f = f in f) f",
		"let rec f = g in f", "let f = fun x -> f in f", "if true then 1 else x", "(x : int)", "(1, 2, 3, 4, 5, 6, 7, x)",
		// in a term that has no type besides
		"(1 1, x)", "(x, 1 1)", "(x : int) true 1", "fun y -> y y x", "let y = 1 true in x", "(1 : bool) x", "if 1 then x else (2, 3)",
	} {
		wantError(t, text, read(t, text), api.ErrScope)
	}
}

func TestTypable(t *testing.T) {
	for text, want := range map[string]bool{
		"fun x -> x": true, "let i = fun x -> x in i i": true, "fun x -> x x": false, "1 1": false, "x": false,
	} {
		if infer.Typable(read(t, text)) != want {
			t.Errorf("%q: not %v", text, want)
		}
	}
}

// Limits

// sized is a type of that many nodes, but 2, without variables.
func sized(n int) api.Type {
	u := number()
	if n%2 == 0 {
		u = tuple(number(), number(), truth())
		n -= 3
	}
	for ; n > 1; n -= 2 {
		u = arrow(number(), u)
	}
	return u
}

// grown is a term whose type has that many nodes, but 2, if the one that it is made of has 1; no term of it has a greater one.
func grown(n int, x api.Term) api.Term {
	y := x
	if n%2 == 0 {
		y = node(api.Tuple, x, x, x)
		n -= 3
	}
	for ; n > 1; n -= 2 {
		y = node(api.Tuple, y, x)
	}
	return y
}

// doubled is a term in which what is bound has a type of twice as many nodes as the one ahead, and one more, that many times.
func doubled(n int, first, last api.Term) api.Term {
	x := last
	for i := n; i > 0; i-- {
		y := variable("x" + strconv.Itoa(i-1))
		x = named(api.Let, "x"+strconv.Itoa(i), node(api.Tuple, y, y), x)
	}
	return named(api.Let, "x0", first, x)
}

// lastOf is what doubled binds last.
func lastOf(n int) api.Term { return variable("x" + strconv.Itoa(n)) }

func TestGreatestType(t *testing.T) {
	loop := "let rec f = fun x -> f x in f 1"
	for what, of := range map[string]func(n int) api.Term{
		"an annotation": func(n int) api.Term { return ann(read(t, loop), sized(n)) },
		"a tuple":       func(n int) api.Term { return grown(n, num(1)) },
		"a function":    func(n int) api.Term { return named(api.Lam, "x", grown(n-2, variable("x"))) },
		"a Let's":       func(n int) api.Term { return named(api.Let, "a", grown(n, num(1)), variable("a")) },
		"a function that Let binds": func(n int) api.Term {
			return named(api.Let, "a", named(api.Lam, "x", grown(n-2, variable("x"))), variable("a"))
		},
	} {
		for _, n := range []int{5, 6, api.MaxSize - 1, api.MaxSize} {
			u, e := infer.Type(of(n))
			if e != api.OK || types.Size(u) != n {
				t.Errorf("%s of %d: a size of %d, %v", what, n, types.Size(u), e)
				continue
			}
			wantType(t, what, of(n), types.Print(u))
		}
		for _, n := range []int{api.MaxSize + 1, api.MaxSize + 2, 3 * api.MaxSize} {
			wantMany(t, what, of(n))
		}
	}
}

// wantMany wants a term that is typable, but whose principal type is too great.
func wantMany(t *testing.T, what string, x api.Term) {
	t.Helper()
	if u, e := infer.Type(x); e != api.ErrMany || !types.Same(u, api.Type{}) {
		t.Errorf("%s: Type: a size of %d, %v", what, types.Size(u), e)
	}
	if s, e := infer.Scheme(x); e != api.ErrMany || s != "" {
		t.Errorf("%s: Scheme: %d bytes, %v", what, len(s), e)
	}
	if l, e := infer.Types(x); e != api.ErrMany || len(l) != 0 {
		t.Errorf("%s: Types: %d, %v", what, len(l), e)
	}
	if !infer.Typable(x) {
		t.Errorf("%s: not typable", what)
	}
}

// A term's type may be small where one of its terms has a great one.
func TestGreatestOfTypes(t *testing.T) {
	for what, c := range map[string]struct {
		of   func(n int) api.Term
		want string
		more int // how much greater than n the greatest type is
	}{
		"what Let binds": {func(n int) api.Term { return named(api.Let, "a", grown(n, num(1)), num(2)) }, "int", 0},
		"what is applied to": {func(n int) api.Term {
			return node(api.App, named(api.Lam, "x", num(2)), grown(n, num(1)))
		}, "int", 2},
		"a function that is applied": {func(n int) api.Term {
			return node(api.App, named(api.Lam, "x", num(2)), named(api.Lam, "y", grown(n, variable("y"))))
		}, "int", 4},
		"an instance": {func(n int) api.Term {
			return named(api.Let, "k", named(api.Lam, "x", named(api.Lam, "y", variable("y"))), node(api.App, variable("k"), grown(n, num(1))))
		}, "'a -> 'a", 4},
	} {
		for _, greatest := range []int{api.MaxSize - 1, api.MaxSize} {
			x := c.of(greatest - c.more)
			wantType(t, what, x, c.want)
			l, e := infer.Types(x)
			found := 0
			for _, u := range l {
				found = max(found, types.Size(u))
			}
			if e != api.OK || len(l) != term.Size(x) || found != greatest {
				t.Errorf("%s: Types: %d, of up to %d, %v", what, len(l), found, e)
			}
		}
		for greatest := api.MaxSize + 1; greatest < api.MaxSize+3; greatest++ {
			x := c.of(greatest - c.more)
			wantType(t, what, x, c.want)
			if l, e := infer.Types(x); e != api.ErrMany || len(l) != 0 {
				t.Errorf("%s: Types: %d, %v", what, len(l), e)
			}
		}
	}
}

func TestTypesThatDouble(t *testing.T) {
	one := num(1)
	for n := range 16 {
		x := doubled(n, one, lastOf(n))
		if size := 2<<n - 1; size > api.MaxSize {
			wantMany(t, "doubled", x)
		} else if u, e := infer.Type(x); e != api.OK || types.Size(u) != size {
			t.Errorf("doubled %d times: a size of %d, %v", n, types.Size(u), e)
		}
	}
	for _, n := range []int{40, 70, 5000} {
		wantMany(t, "doubled", doubled(n, one, lastOf(n)))
		wantMany(t, "doubled, and annotated within", doubled(n, ann(one, number()), lastOf(n)))
		wantError(t, "doubled, and applied", doubled(n, one, node(api.App, lastOf(n), one)), api.ErrClash)
		wantType(t, "doubled, and not meant", doubled(n, one, one), "int")
	}
	for _, n := range []int{40, 70, 1000} {
		x := variable("x")
		wantMany(t, "doubled in a function", named(api.Lam, "x", doubled(n, x, lastOf(n))))
		wantError(t, "doubled, and applied to", named(api.Lam, "x", doubled(n, x, node(api.App, x, lastOf(n)))), api.ErrClash)
		wantType(t, "doubled, and made the same", named(api.Lam, "x", named(api.Lam, "y",
			node(api.App, named(api.Lam, "z", x), node(api.If, api.Term{Kind: api.Bool}, doubled(n, x, lastOf(n)), doubled(n, variable("y"), lastOf(n)))))), "'a -> 'a -> 'a")
	}
}

// What is meant by functions that double again and again is greater than what may be laid.
func TestFunctionsThatDouble(t *testing.T) {
	x := variable("x")
	y := named(api.Lam, "x", node(api.Tuple, x, x))
	for n := 1; n < 13; n++ {
		f := variable("f")
		y = named(api.Let, "f", y, named(api.Lam, "x", node(api.App, f, node(api.App, f, x))))
		switch u, e := infer.Type(y); {
		case n > 3 && e != api.ErrMany:
			t.Errorf("%d times: a size of %d, %v", n, types.Size(u), e)
		case n <= 3 && types.Size(u) != 1+2<<(1<<n):
			t.Errorf("%d times: a size of %d, %v", n, types.Size(u), e)
		}
		if !infer.Typable(y) || infer.Typable(node(api.App, node(api.App, y, num(1)), num(1))) {
			t.Errorf("%d times: Typable", n)
		}
	}
}

// P21.2

func TestTypes(t *testing.T) {
	for text, want := range map[string][]string{
		"1":                         {"int"},
		"fun x -> x":                {"'a -> 'a", "'a"},
		"fun x -> fun y -> x":       {"'a -> 'b -> 'a", "'b -> 'a", "'a"},
		"(fun x -> x) true":         {"bool", "bool -> bool", "bool", "bool"},
		"fun f -> f 1":              {"(int -> 'a) -> 'a", "'a", "int -> 'a", "int"},
		"(1 : int)":                 {"int", "int"},
		"(fun x -> x : int -> int)": {"int -> int", "int -> int", "int"},
		"if true then 1 else 2":     {"int", "bool", "int", "int"},
		"(1, fun x -> x)":           {"(int * ('a -> 'a))", "int", "'a -> 'a", "'a"},
		// numbered by where they first stand, from the first term on
		"(fun x -> 1) (fun y -> y)":          {"int", "('a -> 'a) -> int", "int", "'a -> 'a", "'a"},
		"(fun x -> fun y -> y) (fun z -> z)": {"'a -> 'a", "('b -> 'b) -> 'a -> 'a", "'a -> 'a", "'a", "'b -> 'b", "'b"},
		// as taken when the term itself was gone through
		"let i = fun x -> x in (i 1, i true)": {
			"(int * bool)", "'a -> 'a", "'a", "(int * bool)", "int", "int -> int", "int", "bool", "bool -> bool", "bool"},
		"let i = fun x -> x in i":              {"'a -> 'a", "'b -> 'b", "'b", "'a -> 'a"},
		"let i = fun x -> x in 1":              {"int", "'a -> 'a", "'a", "int"},
		"let a = 1 in a":                       {"int", "int", "int"},
		"fun x -> let y = x in y":              {"'a -> 'a", "'a", "'a", "'a"},
		"fun x -> let y = x in y 1":            {"(int -> 'a) -> 'a", "'a", "int -> 'a", "'a", "int -> 'a", "int"},
		"fun x -> let f = fun y -> x in f 1":   {"'a -> 'a", "'a", "'b -> 'a", "'a", "'a", "int -> 'a", "int"},
		"fun x -> let f = fun y -> x y in f 1": {"(int -> 'a) -> 'a", "'a", "int -> 'a", "'a", "int -> 'a", "int", "'a", "int -> 'a", "int"},
		"let rec f = fun x -> f x in f":        {"'a -> 'b", "'c -> 'd", "'d", "'c -> 'd", "'c", "'a -> 'b"},
		"let rec f = fun x -> f x in f 1":      {"'a", "'b -> 'c", "'c", "'b -> 'c", "'b", "'a", "int -> 'a", "int"},
		"let a = let b = fun x -> x in b in a 1": {
			"int", "'a -> 'a", "'b -> 'b", "'b", "'a -> 'a", "int", "int -> int", "int"},
	} {
		if got := told(infer.Types(read(t, text))); !slices.Equal(got, want) {
			t.Errorf("Types(%q) = %q, want %q", text, got, want)
		}
		if !hold(t, read(t, text)) {
			t.Errorf("%q isn't held against its equations", text)
		}
	}
}

// smallTerms is right terms of up to so many levels, of two names.
func smallTerms(depth int) []api.Term {
	l := []api.Term{variable("x"), variable("y"), num(1)}
	if depth == 1 {
		return l
	}
	for _, a := range smallTerms(depth - 1) {
		l = append(l, named(api.Lam, "x", a), named(api.Lam, "y", a))
		for _, b := range smallTerms(depth - 1) {
			l = append(l, named(api.Let, "x", a, b), named(api.Rec, "x", a, b), node(api.App, a, b))
			if depth == 2 {
				l = append(l, named(api.Let, "y", a, b), named(api.Rec, "y", a, b), node(api.If, a, b, a), node(api.Tuple, b, a), ann(a, number()))
			}
		}
	}
	return l
}

func TestSmallTerms(t *testing.T) {
	have := 0
	for _, x := range smallTerms(3) {
		if len(scope.Free(x)) > 0 {
			wantError(t, pretty.Print(x), x, api.ErrScope)
			x = closed(x)
		}
		if hold(t, x) {
			have++
		}
	}
	if have < 1000 {
		t.Errorf("%d terms have a type", have)
	}
}

// closed is a term in functions of what is free in it.
func closed(x api.Term) api.Term {
	for _, name := range scope.Free(x) {
		x = named(api.Lam, name, x)
	}
	return x
}

// chance gives right terms, the same ones whenever the tests run.
type chance struct{ *rand.Rand }

func begin(n uint64) chance { return chance{rand.New(rand.NewPCG(n, 21))} }

func (c chance) term(depth int) api.Term {
	name := string(rune('a' + c.IntN(4)))
	part := func() api.Term { return c.term(depth - 1) }
	n := c.IntN(20)
	switch {
	case depth == 0 && n < 17 || n < 3:
		return variable(name)
	case depth == 0 && n < 19 || n == 3:
		return num(c.IntN(1000))
	case depth == 0 || n == 4:
		return api.Term{Kind: api.Bool, N: c.IntN(2)}
	case n < 9:
		return named(api.Lam, name, part())
	case n < 11:
		return node(api.App, part(), part())
	case n < 15:
		return named(api.Let, name, part(), part())
	case n == 15:
		return named(api.Rec, name, part(), part())
	case n == 16:
		return node(api.If, part(), part(), part())
	case n < 19:
		l := []api.Term{part(), part()}
		for range c.IntN(3) * c.IntN(3) {
			l = append(l, c.term(0))
		}
		return node(api.Tuple, l...)
	}
	return ann(part(), []api.Type{number(), arrow(number(), number()), tuple(truth(), number())}[c.IntN(3)])
}

func TestTermsByChance(t *testing.T) {
	by := begin(1)
	have, kinds := 0, map[int]int{}
	for range 40000 {
		x := closed(by.term(1 + by.IntN(6)))
		if hold(t, x) {
			have++
			for _, y := range term.All(x) {
				kinds[y.Kind]++
			}
		}
	}
	if have < 10000 {
		t.Errorf("%d terms have a type", have)
	}
	for kind := api.Var; kind <= api.Ann; kind++ {
		if kinds[kind] < 200 {
			t.Errorf("%d of kind %d have a type", kinds[kind], kind)
		}
	}
}

func TestFits(t *testing.T) {
	for text, c := range map[string]struct{ fit, not []string }{
		"1":                             {[]string{"int"}, []string{"bool", "'a", "int -> int", "(int * int)"}},
		"fun x -> x":                    {[]string{"'a -> 'a", "'b -> 'b", "'z7 -> 'z7", "int -> int", "('a -> 'b) -> 'a -> 'b"}, []string{"'a -> 'b", "int -> bool", "int -> 'a", "'a -> int", "'a", "('a * 'a)", "int"}},
		"fun x -> fun y -> x":           {[]string{"'a -> 'b -> 'a", "'b -> 'a -> 'b", "'a -> 'a -> 'a", "int -> 'a -> int", "(int -> 'a) -> bool -> int -> 'a"}, []string{"'a -> 'b -> 'b", "'a -> 'b", "int -> 'a -> 'a"}},
		"let rec f = fun x -> f x in f": {[]string{"'a -> 'b", "'b -> 'a", "'b -> 'c", "'c -> 'c", "int -> 'a", "'a -> 'a -> 'a"}, []string{"'a", "int", "('a * 'b)"}},
		"let rec f = f in f":            {[]string{"'a", "'b", "int", "'a -> 'a", "('a * 'c)"}, nil},
		"(fun x -> x : int -> int)":     {[]string{"int -> int"}, []string{"'a -> 'a", "bool -> bool", "int -> 'a"}},
		"(fun x -> x, fun x -> x)":      {[]string{"(('a -> 'a) * ('b -> 'b))", "(('b -> 'b) * ('a -> 'a))", "((int -> int) * (int -> int))"}, []string{"(('a -> 'a) * ('b -> 'a))", "('a * 'b)", "(('a -> 'a) * ('a -> 'a) * int)"}},
		"fun x -> x x":                  {nil, []string{"'a", "int", "'a -> 'a", "('a -> 'a) -> 'a"}},
		"x":                             {nil, []string{"'a", "int"}},
	} {
		x := read(t, text)
		for _, u := range c.fit {
			if !infer.Fits(x, typed(t, u)) {
				t.Errorf("%q doesn't fit %s", text, u)
			}
		}
		for _, u := range c.not {
			if infer.Fits(x, typed(t, u)) {
				t.Errorf("%q fits %s", text, u)
			}
		}
	}
}

// Variables of a type are called as they are, whatever those of the principal type are.
func TestFitsOfOtherNumbers(t *testing.T) {
	x := read(t, "fun x -> fun y -> (x, y)")
	for _, a := range []int{0, 1, 2, 77, api.MaxVar - 1} {
		for _, b := range []int{0, 1, 2, 77, api.MaxVar - 1} {
			for _, c := range []int{0, 1, 2, 77, api.MaxVar - 1} {
				if got := infer.Fits(x, arrow(v(a), arrow(v(b), tuple(v(a), v(c))))); got != (b == c) {
					t.Errorf("%d, %d, %d: %v", a, b, c, got)
				}
			}
		}
	}
}

func TestFitsOfWrongTypes(t *testing.T) {
	any := read(t, "let rec f = f in f")
	function := read(t, "let rec f = fun x -> f x in f")
	for what, u := range map[string]api.Type{
		"the zero one":            {},
		"a kind above 5":          typ(6, 0),
		"a variable below 0":      v(-1),
		"a variable above":        v(api.MaxVar),
		"a variable with parts":   typ(api.TVar, 0, number()),
		"an int of a number":      typ(api.TInt, 1),
		"a bool with parts":       typ(api.TBool, 0, truth()),
		"an arrow of a number":    typ(api.TArrow, 1, number(), number()),
		"an arrow of one":         typ(api.TArrow, 0, number()),
		"an arrow of three":       typ(api.TArrow, 0, number(), number(), number()),
		"a tuple of one":          tuple(number()),
		"a tuple of nine":         tuple(slices.Repeat([]api.Type{number()}, 9)...),
		"an arrow without parts":  typ(api.TArrow, 0),
		"a tuple without parts":   tuple(),
		"a kind below 0, of some": typ(-3, 2, number()),
	} {
		for _, x := range []api.Type{u, arrow(number(), u), arrow(u, number()), tuple(v(0), u)} {
			if infer.Fits(any, x) || infer.Fits(function, x) {
				t.Errorf("fits %s: %v", what, x)
			}
		}
	}
}

// Whether a type fits is asked of greater ones, too, than are told.
func TestFitsOfGreatTypes(t *testing.T) {
	const n = 13
	great := v(0)
	for range n {
		great = tuple(great, great)
	}
	x := named(api.Lam, "x", doubled(n, variable("x"), lastOf(n)))
	wantMany(t, "doubled", x)
	put := func(u api.Type) api.Type { return subst.Apply([]api.Bind{{Var: 0, Type: u}}, great) }
	for _, u := range []api.Type{v(0), v(9), number(), arrow(v(1), v(0))} {
		if !infer.Fits(x, arrow(u, put(u))) {
			t.Errorf("doesn't fit, of %v", u)
		}
		other := put(u)
		other.Parts[1].Parts[1].Parts[0].Parts[1] = put(truth())
		if infer.Fits(x, arrow(u, other)) || infer.Fits(x, arrow(truth(), put(u))) || infer.Fits(x, put(u)) || infer.Fits(x, u) {
			t.Errorf("fits, of %v", u)
		}
	}
	far := named(api.Lam, "x", doubled(1000, variable("x"), lastOf(1000)))
	if infer.Fits(far, arrow(v(0), great)) || infer.Fits(far, v(0)) {
		t.Error("what is far greater fits")
	}
	if !infer.Fits(read(t, "fun x -> x"), arrow(great, great)) || infer.Fits(read(t, "fun x -> x"), arrow(great, put(v(1)))) {
		t.Error("of a small one")
	}
}

// smallTypes is types of up to so many levels.
func smallTypes(depth int) []api.Type {
	l := []api.Type{v(0), v(1), number()}
	if depth == 1 {
		return l
	}
	for _, a := range smallTypes(depth - 1) {
		for _, b := range smallTypes(depth - 1) {
			l = append(l, arrow(a, b), tuple(a, b))
		}
	}
	return l
}

func TestFitsOfSmallTypes(t *testing.T) {
	small := smallTypes(3)
	for _, text := range []string{
		"fun x -> x", "fun x -> fun y -> x", "fun x -> (x, x)", "fun x -> 1", "let rec f = fun x -> f x in f", "(1, fun x -> x)", "let rec f = f in (f, f)",
		"fun f -> f 1", "let rec f = f in f", "let rec f = f in fun x -> (f, x)", "1", "fun x -> x x", "let rec f = f in (f, (f, f))",
	} {
		x := read(t, text)
		u, e := infer.Type(x)
		general := scheme.Scheme{Vars: types.Vars(u), Type: u}
		fits := 0
		for _, y := range small {
			want := e == api.OK && scheme.Instance(general, y)
			if infer.Fits(x, y) != want {
				t.Errorf("%q fits %s: not %v", text, types.Print(y), want)
			}
			if want {
				fits++
			}
		}
		if fits == 0 && e == api.OK {
			t.Errorf("%q fits none", text)
		}
	}
}

// P21.3

func TestAlikeTermsHaveOneType(t *testing.T) {
	by := begin(2)
	names := []string{"a", "b", "c", "d", "e", "longer", "x1"}
	renamed := 0
	for range 20000 {
		x := closed(by.term(1 + by.IntN(5)))
		var other []string
		for range scope.Bound(x) {
			other = append(other, names[by.IntN(len(names))])
		}
		y := scope.Rename(x, other...)
		if term.Same(x, y) {
			continue
		}
		renamed++
		resolved, _, _ := scope.Resolve(y)
		resolved.At = api.Span{From: 7, To: 3}
		want := told(infer.Types(x))
		if !scope.Alike(x, resolved) || !slices.Equal(told(infer.Types(y)), want) || !slices.Equal(told(infer.Types(resolved)), want) {
			t.Fatalf("%s and %s: %q", pretty.Print(x), pretty.Print(y), want)
		}
	}
	if renamed < 2000 {
		t.Errorf("%d were renamed", renamed)
	}
}

func TestAnnotatedTermsHaveThatType(t *testing.T) {
	by := begin(3)
	have := 0
	annotations := []api.Type{number(), truth(), arrow(number(), number()), arrow(number(), arrow(truth(), number())), tuple(number(), truth()), arrow(arrow(number(), truth()), number())}
	for range 10000 {
		x := closed(by.term(1 + by.IntN(4)))
		for _, u := range annotations {
			y := ann(x, u)
			got, e := infer.Type(y)
			if fits := infer.Fits(x, u); (e == api.OK) != fits || e != api.OK && e != api.ErrClash {
				t.Fatalf("%s: %v, but it fits: %v", pretty.Print(y), e, fits)
			}
			if e != api.OK {
				continue
			}
			have++
			l, e := infer.Types(y)
			if !types.Same(got, u) || e != api.OK || !types.Same(l[0], u) || !types.Same(l[1], u) {
				t.Fatalf("%s: %s", pretty.Print(y), types.Print(got))
			}
		}
	}
	if have < 2000 {
		t.Errorf("%d have the type", have)
	}
}

func TestAnnotations(t *testing.T) {
	for text, want := range map[string]bool{
		// an instance
		"(fun x -> x : int -> int)":                                    true,
		"(fun x -> x : (int -> bool) -> int -> bool)":                  true,
		"(fun x -> fun y -> x : int -> bool -> int)":                   true,
		"let i = fun x -> x in ((i : int -> int), (i : bool -> bool))": true,
		"(let rec f = fun x -> f x in f 1 : (int * bool))":             true,
		"fun x -> ((x : int), (x : int))":                              true,
		"((1 : int) : int)":                                            true,
		"let a = (fun x -> x : int -> int) in (a 1, a 2)":              true,
		// none
		"(fun x -> x : int -> bool)":                                   false,
		"(fun x -> x : int)":                                           false,
		"(1 : int -> int)":                                             false,
		"((1, 2) : (int * bool))":                                      false,
		"((1 : int) : bool)":                                           false,
		"fun x -> ((x : int), (x : bool))":                             false,
		"let a = (fun x -> x : int -> int) in (a 1, a true)":           false,
		"fun f -> let g = f in ((g : int -> int), (g : bool -> bool))": false,
	} {
		if infer.Typable(read(t, text)) != want {
			t.Errorf("%q: not %v", text, want)
		}
	}
}

// Rule 4

// scribble changes whatever a type's memory holds, its spare room too.
func scribble(t *api.Type) {
	for i := range t.Parts {
		scribble(&t.Parts[i])
	}
	_ = append(t.Parts, api.Type{Kind: 78})
	*t = api.Type{Kind: 79}
}

// sample is the text of a term of many kinds.
const sample = "let a = (fun x -> (x, x) : int -> (int * int)) in let rec f = fun y -> if true then (a, y) else f y in (fun z -> (z, z, a 1), f)"

func TestAnswersAreNewMemory(t *testing.T) {
	x := read(t, sample)
	before := term.Copy(x)
	first, e := infer.Types(x)
	if e != api.OK {
		t.Fatal(e)
	}
	want := copied(first)
	for i := range want {
		l, _ := infer.Types(x)
		scribble(&l[i])
		l[i] = types.Copy(want[i])
		_ = append(l, api.Type{})
		if !sameTypes(l, want) {
			t.Fatalf("the type %d shares memory", i)
		}
		// also its parts with each other
		for j := range l[i].Parts {
			l, _ := infer.Types(x)
			scribble(&l[i].Parts[j])
			l[i].Parts[j] = types.Copy(want[i].Parts[j])
			if !sameTypes(l, want) {
				t.Fatalf("the part %d of the type %d shares memory", j, i)
			}
		}
	}
	u, _ := infer.Type(x)
	scribble(&u)
	if again, _ := infer.Type(x); !types.Same(again, want[0]) || !sameTypes(first, want) || !term.Equal(x, before) {
		t.Error("Type answers memory that isn't new")
	}
}

func TestWhatIsHandedInStays(t *testing.T) {
	x := read(t, sample)
	before := term.Copy(x)
	u, _ := infer.Type(x)
	kept := types.Copy(u)
	infer.Types(x)
	infer.Scheme(x)
	infer.Typable(x)
	if !infer.Fits(x, u) || !term.Equal(x, before) || !types.Same(u, kept) {
		t.Error("what is handed in is changed")
	}
}

// deep ones

func TestDeepTerms(t *testing.T) {
	defer debug.SetMaxStack(debug.SetMaxStack(1 << 19))
	one := variable("x")
	for what, c := range map[string]struct {
		around func(x api.Term) api.Term
		want   string // in a function of x
	}{
		"functions, applied": {func(x api.Term) api.Term { return node(api.App, named(api.Lam, "y", x), num(1)) }, "'a -> 'a"},
		"within let":         {func(x api.Term) api.Term { return named(api.Let, "y", x, one) }, "'a -> 'a"},
		"within let, meant":  {func(x api.Term) api.Term { return named(api.Let, "y", x, variable("y")) }, "'a -> 'a"},
		"within let rec":     {func(x api.Term) api.Term { return named(api.Rec, "y", x, variable("y")) }, "'a -> 'a"},
		"let rec":            {func(x api.Term) api.Term { return named(api.Rec, "x", one, x) }, "'a -> 'b"},
		"let":                {func(x api.Term) api.Term { return named(api.Let, "x", one, x) }, "'a -> 'a"},
		"let, of numbers":    {func(x api.Term) api.Term { return named(api.Let, "y", num(1), x) }, "'a -> 'a"},
		"let and functions": {func(x api.Term) api.Term {
			return node(api.App, named(api.Lam, "x", named(api.Let, "y", variable("x"), x)), one)
		}, "'a -> 'a"},
		"if":              {func(x api.Term) api.Term { return node(api.If, api.Term{Kind: api.Bool}, one, x) }, "'a -> 'a"},
		"if, asked":       {func(x api.Term) api.Term { return node(api.If, x, one, one) }, "bool -> bool"},
		"annotated again": {func(x api.Term) api.Term { return ann(x, number()) }, "int -> int"},
		"to the right":    {func(x api.Term) api.Term { return node(api.App, named(api.Lam, "y", variable("y")), x) }, "'a -> 'a"},
	} {
		x := one
		for range deep {
			x = c.around(x)
		}
		wantType(t, what, named(api.Lam, "x", x), c.want)
		if len(scope.Free(x)) > 0 {
			wantError(t, what+", free", x, api.ErrScope)
		}
		wantError(t, what+", wrong", node(api.App, x, api.Term{}), api.ErrArg)
		wantError(t, what+", without a type", named(api.Lam, "x", node(api.App, x, node(api.App, num(1), x))), api.ErrClash)
	}
}

// Types as deep are great, and of themselves.
func TestDeepTypes(t *testing.T) {
	defer debug.SetMaxStack(debug.SetMaxStack(1 << 19))
	one := variable("x")
	for what, c := range map[string]struct{ around, itself func(x api.Term) api.Term }{
		"functions": {
			func(x api.Term) api.Term { return named(api.Lam, "y", x) },
			func(x api.Term) api.Term { return node(api.App, one, x) },
		},
		"applications": {
			func(x api.Term) api.Term { return node(api.App, x, num(1)) },
			func(x api.Term) api.Term { return node(api.App, x, one) },
		},
		"tuples": {
			func(x api.Term) api.Term { return node(api.Tuple, num(1), x) },
			func(x api.Term) api.Term { return node(api.App, one, x) },
		},
	} {
		x := one
		for range deep {
			x = c.around(x)
		}
		wantMany(t, what, named(api.Lam, "x", x))
		wantMany(t, what+", bound", named(api.Let, "f", named(api.Lam, "x", x), variable("f")))
		wantMany(t, what+", bound, around", named(api.Lam, "x", named(api.Let, "f", x, node(api.Tuple, variable("f"), one))))
		itself := named(api.Lam, "x", c.itself(x))
		wantError(t, what+", of itself", itself, api.ErrClash)
		wantError(t, what+", of itself, within let", named(api.Let, "y", itself, num(1)), api.ErrClash)
	}
	far := number()
	for range deep {
		far = arrow(far, number())
	}
	loop := read(t, "let rec f = f in f")
	wantMany(t, "an annotation", ann(loop, far))
	wantMany(t, "an annotation, bound", named(api.Let, "a", ann(loop, far), node(api.Tuple, variable("a"), variable("a"))))
	if !infer.Fits(loop, far) || !infer.Fits(read(t, "fun x -> x"), arrow(far, far)) || infer.Fits(read(t, "fun x -> x"), arrow(far, arrow(far, far))) {
		t.Error("Fits of a deep type")
	}
}
