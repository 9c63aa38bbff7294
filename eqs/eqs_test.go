package eqs_test

import (
	"maps"
	"math"
	"math/rand/v2"
	"runtime"
	"runtime/debug"
	"slices"
	"strconv"
	"strings"
	"testing"

	"pangram/api"
	"pangram/eqs"
	"pangram/parse"
	"pangram/pretty"
	"pangram/scope"
	"pangram/solve"
	"pangram/term"
	"pangram/types"
)

const deep = 1 << 16 // levels: calls within calls as deep would take more than the stack that TestDeepTerms gives

func variable(name string) api.Term { return api.Term{Kind: api.Var, Name: name} }

func num(n int) api.Term { return api.Term{Kind: api.Int, N: n} }

func node(kind int, parts ...api.Term) api.Term { return api.Term{Kind: kind, Parts: parts} }

func named(kind int, name string, parts ...api.Term) api.Term {
	return api.Term{Kind: kind, Name: name, Parts: parts}
}

func ann(x api.Term, t api.Type) api.Term {
	return api.Term{Kind: api.Ann, Type: t, Parts: []api.Term{x}}
}

func typ(kind, n int, parts ...api.Type) api.Type {
	return api.Type{Kind: kind, N: n, Parts: parts}
}

func v(n int) api.Type { return typ(api.TVar, n) }

func number() api.Type { return typ(api.TInt, 0) }

func arrow(a, b api.Type) api.Type { return typ(api.TArrow, 0, a, b) }

func tuple(parts ...api.Type) api.Type { return typ(api.TTuple, 0, parts...) }

// read is the term of a text, with spans.
func read(t *testing.T, s string) api.Term {
	t.Helper()
	x, _, e := parse.Term(s, math.MaxInt)
	if e != api.OK {
		t.Fatalf("no term: %q", s)
	}
	return x
}

// of is the equations of a term that has no more than may be.
func of(t *testing.T, x api.Term) []api.Eq {
	t.Helper()
	l, e := eqs.Of(x, math.MaxInt)
	if e != api.OK {
		t.Fatalf("Of(%s): %v", pretty.Print(x), e)
	}
	return l
}

// told is a type whose variables are numbers.
func told(t api.Type) string {
	var parts []string
	for _, part := range t.Parts {
		parts = append(parts, told(part))
	}
	switch t.Kind {
	case api.TVar:
		return strconv.Itoa(t.N)
	case api.TArrow:
		return "(" + strings.Join(parts, " -> ") + ")"
	case api.TTuple:
		return "(" + strings.Join(parts, " * ") + ")"
	}
	return types.Print(t)
}

// lines is equations, each with the part of a text that is charged with it.
func lines(text string, l []api.Eq) []string {
	var all []string
	for _, e := range l {
		all = append(all, told(e.L)+" is "+told(e.R)+": "+text[e.At.From:e.At.To])
	}
	return all
}

func sameEqs(a, b []api.Eq) bool {
	return slices.EqualFunc(a, b, func(x, y api.Eq) bool {
		return types.Same(x.L, y.L) && types.Same(x.R, y.R) && x.At == y.At
	})
}

// copied is the same equations, in memory of their own.
func copied(l []api.Eq) []api.Eq {
	var same []api.Eq
	for _, e := range l {
		same = append(same, api.Eq{L: types.Copy(e.L), R: types.Copy(e.R), At: e.At})
	}
	return same
}

// wrongTerms is terms that aren't right, by what is wrong with them.
func wrongTerms() map[string]api.Term {
	x := variable("x")
	l := map[string]api.Term{
		"the zero one":                      {},
		"a kind above 10":                   named(11, "x", x),
		"no name":                           variable(""),
		"a word as name":                    variable("let"),
		"a variable below 0":                {Kind: api.Var, Name: "x", N: -1},
		"a variable with parts":             named(api.Var, "x", x),
		"a number below 0":                  num(-1),
		"a number of ten digits":            num(1_000_000_000),
		"a truth of 2":                      {Kind: api.Bool, N: 2},
		"a function without parts":          named(api.Lam, "x"),
		"a function of two":                 named(api.Lam, "x", x, x),
		"let of one":                        named(api.Let, "x", num(1)),
		"let rec of three":                  named(api.Rec, "x", x, x, x),
		"an application of one":             node(api.App, num(1)),
		"if of two":                         node(api.If, num(1), num(2)),
		"a tuple of one":                    node(api.Tuple, num(1)),
		"a tuple of nine":                   node(api.Tuple, slices.Repeat([]api.Term{num(1)}, 9)...),
		"an annotation of no type":          node(api.Ann, num(1)),
		"an annotation with a variable":     ann(num(1), arrow(number(), v(0))),
		"an annotation that isn't right":    ann(num(1), arrow(number(), api.Type{})),
		"a type where there is none":        {Kind: api.Int, Type: number()},
		"a part where there is none":        node(api.Int, num(1)),
		"a free name ahead of what's wrong": node(api.App, variable("free"), node(api.Tuple)),
	}
	for what, y := range maps.Clone(l) {
		l[what+", inside"] = named(api.Lam, "x", node(api.App, num(1), y))
	}
	return l
}

// known is what a name means, a second way.
type known struct {
	stands   int
	again    bool     // the equations come once more
	keeps    []api.Eq // these
	from, to int      // the variables that are other ones then
}

// with is what is known and one name more.
func with(around map[string]known, name string, k known) map[string]known {
	inside := maps.Clone(around)
	inside[name] = k
	return inside
}

// second tells equations a second way, by calls within calls, and by maps of variables.
type second struct {
	l    []api.Eq
	next int
}

func (s *second) add(l, r api.Type, at api.Span) {
	s.l = append(s.l, api.Eq{L: l, R: r, At: at})
}

// tell tells a term's equations, and gives its own variable.
func (s *second) tell(x api.Term, around map[string]known) api.Type {
	own := v(s.next)
	s.next++
	switch x.Kind {
	case api.Int:
		s.add(own, number(), x.At)
	case api.Bool:
		s.add(own, typ(api.TBool, 0), x.At)
	case api.Var:
		s.add(own, s.mean(around[x.Name]), x.At)
	case api.Lam:
		binder := s.next
		s.next++
		part := s.tell(x.Parts[0], with(around, x.Name, known{stands: binder}))
		s.add(own, arrow(v(binder), part), x.At)
	case api.Let, api.Rec:
		k := s.keep(x, around)
		s.add(own, s.tell(x.Parts[1], with(around, x.Name, k)), x.At)
	default:
		s.plain(x, own, around)
	}
	return own
}

// plain tells a term that means nothing by names.
func (s *second) plain(x api.Term, own api.Type, around map[string]known) {
	var p []api.Type
	for _, part := range x.Parts {
		p = append(p, s.tell(part, around))
	}
	switch x.Kind {
	case api.App:
		s.add(p[0], arrow(p[1], own), x.At)
	case api.If:
		s.add(p[0], typ(api.TBool, 0), x.Parts[0].At)
		s.add(own, p[1], x.Parts[1].At)
		s.add(own, p[2], x.Parts[2].At)
	case api.Tuple:
		s.add(own, tuple(p...), x.At)
	case api.Ann:
		s.add(p[0], x.Type, x.Parts[0].At)
		s.add(own, x.Type, x.At)
	}
}

// keep tells the first part of a Let, or of a Rec, and what is known of the name in the second one.
func (s *second) keep(x api.Term, around map[string]known) known {
	k := known{stands: s.next, again: true, from: s.next}
	ahead := len(s.l)
	if x.Kind == api.Rec {
		s.next++
		part := s.tell(x.Parts[0], with(around, x.Name, known{stands: k.stands}))
		s.add(v(k.stands), part, x.At)
	} else {
		s.tell(x.Parts[0], around)
	}
	k.keeps, k.to = slices.Clone(s.l[ahead:]), s.next
	return k
}

// mean is what a name becomes where it is meant.
func (s *second) mean(k known) api.Type {
	if !k.again {
		return v(k.stands)
	}
	other := map[int]int{}
	for n := k.from; n < k.to; n++ {
		other[n] = s.next
		s.next++
	}
	for _, e := range k.keeps {
		s.add(renamed(e.L, other), renamed(e.R, other), e.At)
	}
	return renamed(v(k.stands), other)
}

// renamed is a type some of whose variables are other ones.
func renamed(t api.Type, other map[int]int) api.Type {
	if n, ok := other[t.N]; ok && t.Kind == api.TVar {
		return v(n)
	}
	same := typ(t.Kind, t.N)
	for _, part := range t.Parts {
		same.Parts = append(same.Parts, renamed(part, other))
	}
	return same
}

// secondly is a right closed term's equations, and how many variables they take.
func secondly(x api.Term) ([]api.Eq, int) {
	var s second
	s.tell(x, map[string]known{})
	return s.l, s.next
}

// smallTerms is right terms of up to so many levels, of two names.
func smallTerms(depth int) []api.Term {
	l := []api.Term{variable("x"), variable("y"), num(1)}
	if depth == 1 {
		return l
	}
	for _, a := range smallTerms(depth - 1) {
		l = append(l, named(api.Lam, "x", a), named(api.Lam, "y", a))
		for _, b := range smallTerms(depth - 1) {
			l = append(l, named(api.Let, "x", a, b), named(api.Rec, "x", a, b), node(api.App, a, b))
			if depth == 2 {
				l = append(l, named(api.Let, "y", a, b), named(api.Rec, "y", a, b), node(api.If, a, b, a), node(api.Tuple, b, a), ann(a, number()))
			}
		}
	}
	return l
}

// spanned is a term whose terms each have a span of their own.
func spanned(x api.Term) api.Term {
	x = term.Copy(x)
	n := 0
	var give func(x *api.Term)
	give = func(x *api.Term) {
		x.At = api.Span{From: n, To: 1000 - n}
		n++
		for i := range x.Parts {
			give(&x.Parts[i])
		}
	}
	give(&x)
	return x
}

// P17.1

func TestOf(t *testing.T) {
	for text, want := range map[string][]string{
		"1":     {"0 is int: 1"},
		"false": {"0 is bool: false"},
		// what means a Lam
		"fun x -> x":          {"2 is 1: x", "0 is (1 -> 2): fun x -> x"},
		"fun x -> 1":          {"2 is int: 1", "0 is (1 -> 2): fun x -> 1"},
		"fun x -> fun y -> x": {"4 is 1: x", "2 is (3 -> 4): fun y -> x", "0 is (1 -> 2): fun x -> fun y -> x"},
		"fun x -> fun y -> y": {"4 is 3: y", "2 is (3 -> 4): fun y -> y", "0 is (1 -> 2): fun x -> fun y -> y"},
		"fun f -> f 1":        {"3 is 1: f", "4 is int: 1", "3 is (4 -> 2): f 1", "0 is (1 -> 2): fun f -> f 1"},
		"fun x -> x x":        {"3 is 1: x", "4 is 1: x", "3 is (4 -> 2): x x", "0 is (1 -> 2): fun x -> x x"},
		"(fun x -> x) true":   {"3 is 2: x", "1 is (2 -> 3): fun x -> x", "4 is bool: true", "1 is (4 -> 0): (fun x -> x) true"},
		// what means a Let
		"let a = 1 in 2": {"1 is int: 1", "2 is int: 2", "0 is 2: let a = 1 in 2"},
		"let a = 1 in a": {"1 is int: 1", "3 is int: 1", "2 is 3: a", "0 is 2: let a = 1 in a"},
		"let i = fun x -> x in i i": {
			"3 is 2: x", "1 is (2 -> 3): fun x -> x",
			"8 is 7: x", "6 is (7 -> 8): fun x -> x", "5 is 6: i",
			"12 is 11: x", "10 is (11 -> 12): fun x -> x", "9 is 10: i",
			"5 is (9 -> 4): i i", "0 is 4: let i = fun x -> x in i i"},
		"fun y -> let a = y in (a, y)": {
			"3 is 1: y", "6 is 1: y", "5 is 6: a", "7 is 1: y", "4 is (5 * 7): (a, y)",
			"2 is 4: let a = y in (a, y)", "0 is (1 -> 2): fun y -> let a = y in (a, y)"},
		// what is kept, kept anew
		"let a = let b = 1 in b in (a, a)": {
			"2 is int: 1", "4 is int: 1", "3 is 4: b", "1 is 3: let b = 1 in b",
			"8 is int: 1", "10 is int: 1", "9 is 10: b", "7 is 9: let b = 1 in b", "6 is 7: a",
			"13 is int: 1", "15 is int: 1", "14 is 15: b", "12 is 14: let b = 1 in b", "11 is 12: a",
			"5 is (6 * 11): (a, a)", "0 is 5: let a = let b = 1 in b in (a, a)"},
		"let a = 1 in let b = a in b": {
			"1 is int: 1", "4 is int: 1", "3 is 4: a", "7 is int: 1", "6 is 7: a", "5 is 6: b",
			"2 is 5: let b = a in b", "0 is 2: let a = 1 in let b = a in b"},
		// what means a Rec, from within and from behind
		"let rec f = f in f": {
			"2 is 1: f", "1 is 2: let rec f = f in f", "5 is 4: f", "4 is 5: let rec f = f in f", "3 is 4: f",
			"0 is 3: let rec f = f in f"},
		"let rec f = 1 in f": {
			"2 is int: 1", "1 is 2: let rec f = 1 in f", "5 is int: 1", "4 is 5: let rec f = 1 in f", "3 is 4: f",
			"0 is 3: let rec f = 1 in f"},
		"let rec f = 1 in 2": {"2 is int: 1", "1 is 2: let rec f = 1 in 2", "3 is int: 2", "0 is 3: let rec f = 1 in 2"},
		"fun y -> let rec f = y in f": {
			"4 is 1: y", "3 is 4: let rec f = y in f", "7 is 1: y", "6 is 7: let rec f = y in f", "5 is 6: f",
			"2 is 5: let rec f = y in f", "0 is (1 -> 2): fun y -> let rec f = y in f"},
		"let rec f = let g = f in g in 1": {
			"3 is 1: f", "5 is 1: f", "4 is 5: g", "2 is 4: let g = f in g", "1 is 2: let rec f = let g = f in g in 1",
			"6 is int: 1", "0 is 6: let rec f = let g = f in g in 1"},
		// names that are those of others around
		"fun x -> fun x -> x":      {"4 is 3: x", "2 is (3 -> 4): fun x -> x", "0 is (1 -> 2): fun x -> fun x -> x"},
		"fun x -> (fun x -> x, x)": {"5 is 4: x", "3 is (4 -> 5): fun x -> x", "6 is 1: x", "2 is (3 * 6): (fun x -> x, x)", "0 is (1 -> 2): fun x -> (fun x -> x, x)"},
		"fun x -> let x = x in x":  {"3 is 1: x", "5 is 1: x", "4 is 5: x", "2 is 4: let x = x in x", "0 is (1 -> 2): fun x -> let x = x in x"},
		"let x = 1 in let x = true in x": {
			"1 is int: 1", "3 is bool: true", "5 is bool: true", "4 is 5: x", "2 is 4: let x = true in x", "0 is 2: let x = 1 in let x = true in x"},
		"let x = 1 in fun x -> x": {"1 is int: 1", "4 is 3: x", "2 is (3 -> 4): fun x -> x", "0 is 2: let x = 1 in fun x -> x"},
		"let rec f = fun f -> f in 1": {
			"4 is 3: f", "2 is (3 -> 4): fun f -> f", "1 is 2: let rec f = fun f -> f in 1", "5 is int: 1", "0 is 5: let rec f = fun f -> f in 1"},
		"let f = 1 in let rec f = f in 2": {
			"1 is int: 1", "4 is 3: f", "3 is 4: let rec f = f in 2", "5 is int: 2", "2 is 5: let rec f = f in 2", "0 is 2: let f = 1 in let rec f = f in 2"},
		// If, Ann, tuples
		"if true then 1 else 2": {"1 is bool: true", "2 is int: 1", "3 is int: 2", "1 is bool: true", "0 is 2: 1", "0 is 3: 2"},
		"(1 : bool)":            {"1 is int: 1", "1 is bool: 1", "0 is bool: (1 : bool)"},
		"((true) : int -> (int * bool))": {
			"1 is bool: true", "1 is (int -> (int * bool)): true", "0 is (int -> (int * bool)): ((true) : int -> (int * bool))"},
		"(1, true)": {"1 is int: 1", "2 is bool: true", "0 is (1 * 2): (1, true)"},
		"(1, 2, 3, 4, 5, 6, 7, 8)": {
			"1 is int: 1", "2 is int: 2", "3 is int: 3", "4 is int: 4", "5 is int: 5", "6 is int: 6", "7 is int: 7", "8 is int: 8",
			"0 is (1 * 2 * 3 * 4 * 5 * 6 * 7 * 8): (1, 2, 3, 4, 5, 6, 7, 8)"},
		"fun t -> (t, (t, t, t))": {
			"3 is 1: t", "5 is 1: t", "6 is 1: t", "7 is 1: t", "4 is (5 * 6 * 7): (t, t, t)", "2 is (3 * 4): (t, (t, t, t))",
			"0 is (1 -> 2): fun t -> (t, (t, t, t))"},
		"let p = (1 : int) in if p then p else p": {
			"2 is int: 1", "2 is int: 1", "1 is int: (1 : int)",
			"6 is int: 1", "6 is int: 1", "5 is int: (1 : int)", "4 is 5: p",
			"9 is int: 1", "9 is int: 1", "8 is int: (1 : int)", "7 is 8: p",
			"12 is int: 1", "12 is int: 1", "11 is int: (1 : int)", "10 is 11: p",
			"4 is bool: p", "3 is 7: p", "3 is 10: p", "0 is 3: let p = (1 : int) in if p then p else p"},
	} {
		x := read(t, text)
		if got := lines(text, of(t, x)); !slices.Equal(got, want) {
			t.Errorf("Of(%q) =\n%s\nwant\n%s", text, strings.Join(got, "\n"), strings.Join(want, "\n"))
		}
		hold(t, x)
	}
}

// hold holds a right closed term's equations against those that come a second way, and against what follows of them.
func hold(t *testing.T, x api.Term) {
	t.Helper()
	want, takes := secondly(x)
	n := len(want)
	for _, most := range []int{n, n + 1, api.MaxEqs, api.MaxEqs + 1, math.MaxInt} {
		got, e := eqs.Of(x, most)
		if n <= api.MaxEqs && (e != api.OK || !sameEqs(got, want)) {
			t.Fatalf("Of(%s, %d) = %v, %v, want %v", pretty.Print(x), most, got, e, want)
		}
		if n > api.MaxEqs && (e != api.ErrMany || got != nil) {
			t.Fatalf("Of(%s, %d) = %v, %v, of %d", pretty.Print(x), most, got, e, n)
		}
	}
	for _, most := range []int{n - 1, n / 2, 1 - n, 0, -1, math.MinInt} {
		if got, e := eqs.Of(x, most); e != api.ErrMany || got != nil {
			t.Fatalf("Of(%s, %d) = %v, %v, of %d", pretty.Print(x), most, got, e, n)
		}
	}
	if got := eqs.Vars(want...); got != takes {
		t.Fatalf("Vars of the equations of %s: %d, want %d", pretty.Print(x), got, takes)
	}
	spans := term.Spans(x)
	for _, e := range want {
		if !slices.Contains(spans, e.At) || !types.Right(e.L) || !types.Right(e.R) {
			t.Fatalf("of %s: %v", pretty.Print(x), e)
		}
	}
}

func TestOfSmallTerms(t *testing.T) {
	closed := 0
	for _, x := range smallTerms(3) {
		x = spanned(x)
		if len(scope.Free(x)) > 0 {
			wantError(t, pretty.Print(x), x, api.ErrScope)
			x = spanned(named(api.Lam, "x", named(api.Lam, "y", x)))
		} else {
			closed++
		}
		hold(t, x)
	}
	if closed < 1000 {
		t.Errorf("%d closed terms", closed)
	}
}

// wantError wants an error, however many equations there may be.
func wantError(t *testing.T, what string, x api.Term, want api.Errno) {
	t.Helper()
	for _, most := range []int{math.MaxInt, api.MaxEqs + 1, api.MaxEqs, 1, 0, -1, math.MinInt} {
		if got, e := eqs.Of(x, most); e != want || got != nil {
			t.Fatalf("%s, up to %d: %d equations, %v, want %v", what, most, len(got), e, want)
		}
	}
}

// chance gives right terms, the same ones whenever the tests run.
type chance struct{ *rand.Rand }

func begin(n uint64) chance { return chance{rand.New(rand.NewPCG(n, 17))} }

func (c chance) term(depth int) api.Term {
	name := string(rune('a' + c.IntN(4)))
	part := func() api.Term { return c.term(depth - 1) }
	n := c.IntN(16)
	switch {
	case depth == 0 && n < 12 || n < 2:
		return variable(name)
	case depth == 0 && n < 14 || n == 2:
		return num(c.IntN(1000))
	case depth == 0 || n == 3:
		return api.Term{Kind: api.Bool, N: c.IntN(2)}
	case n < 6:
		return named(api.Lam, name, part())
	case n < 8:
		return node(api.App, part(), part())
	case n < 10:
		return named(api.Let, name, part(), part())
	case n < 12:
		return named(api.Rec, name, part(), part())
	case n == 12:
		return node(api.If, part(), part(), part())
	case n < 15:
		l := []api.Term{part(), part()}
		for range c.IntN(3) * c.IntN(3) {
			l = append(l, c.term(0))
		}
		return node(api.Tuple, l...)
	}
	return ann(part(), arrow(number(), tuple(number(), number())))
}

// closed is a term in functions of what is free in it.
func closed(x api.Term) api.Term {
	for _, name := range scope.Free(x) {
		x = named(api.Lam, name, x)
	}
	return spanned(x)
}

func TestOfTermsByChance(t *testing.T) {
	by := begin(1)
	kinds := map[int]int{}
	for range 20000 {
		x := closed(by.term(1 + by.IntN(5)))
		for _, y := range term.All(x) {
			kinds[y.Kind]++
		}
		// Doubled again and again there may be too many for a second way.
		if _, e := eqs.Of(x, 1500); e == api.OK {
			hold(t, x)
		}
	}
	for kind := api.Var; kind <= api.Ann; kind++ {
		if kinds[kind] < 1000 {
			t.Errorf("%d of kind %d", kinds[kind], kind)
		}
	}
}

// What the equations say is what the term's type is.
func TestWhatTheEquationsSay(t *testing.T) {
	for text, want := range map[string]string{
		"fun x -> x":                                                                      "'a -> 'a",
		"fun x -> fun y -> x":                                                             "'a -> 'b -> 'a",
		"let i = fun x -> x in (i 1, i true)":                                             "(int * bool)",
		"let i = fun x -> x in i i":                                                       "'a -> 'a",
		"fun x -> let y = x in (y, y)":                                                    "'a -> ('a * 'a)",
		"let rec f = fun x -> f x in f":                                                   "'a -> 'b",
		"let rec f = fun x -> f x in (f 1, f true)":                                       "('a * 'b)",
		"let rec f = fun x -> if x then 1 else f true in f":                               "bool -> int",
		"let k = fun x -> fun y -> x in (k 1 true, k true 1)":                             "(int * bool)",
		"fun f -> fun g -> fun x -> f (g x)":                                              "('a -> 'b) -> ('c -> 'a) -> 'c -> 'b",
		"let d = fun f -> fun x -> f (f x) in d d d":                                      "('a -> 'a) -> 'a -> 'a",
		"fun y -> let rec f = fun x -> (let z = y in z) in (f 1, f true)":                 "'a -> ('a * 'a)",
		"let p = let i = fun x -> x in (i, i) in fun f -> (p, p)":                         "'a -> ((('b -> 'b) * ('c -> 'c)) * (('d -> 'd) * ('e -> 'e)))",
		"fun x -> (if x then (1 : int) else 2, (x : bool))":                               "bool -> (int * bool)",
		"let rec f = let g = fun x -> f in g 1 in f":                                      "'a",
		"let rec f = fun n -> let rec g = fun m -> f (g m) in g n in (f, fun x -> f x x)": "type error",
		"1 true":                      "type error",
		"fun x -> x x":                "type error",
		"(1 : bool)":                  "type error",
		"fun f -> (f 1, f true)":      "type error",
		"if 1 then 2 else 3":          "type error",
		"if true then 1 else true":    "type error",
		"let rec f = fun x -> f in f": "type error",
		"let rec f = fun x -> if true then f 1 else f true in f": "type error",
		"fun x -> let y = x in (y 1, y true)":                    "type error",
		"let a = 1 true in 2":                                    "type error",
		"let rec f = (f 1, 2) in 2":                              "type error",
	} {
		got := "type error"
		if u, e := solve.Type(1000, v(0), of(t, read(t, text))...); e == api.OK {
			got = types.Print(types.Canon(u))
		}
		if got != want {
			t.Errorf("%q: %s, want %s", text, got, want)
		}
	}
}

func TestOfWrongTerms(t *testing.T) {
	for what, x := range wrongTerms() {
		wantError(t, what, x, api.ErrArg)
	}
}

func TestOfFreeNames(t *testing.T) {
	for _, text := range []string{
		"x", "f 1", "fun x -> y", "let x = x in x", "(fun x -> x, x)", "(let x = 1 in x, x)", "(let rec f = f in f) f",
		"let rec f = g in f", "let f = fun x -> f in f", "if true then 1 else x", "(x : int)", "(1, 2, 3, 4, 5, 6, 7, x)",
	} {
		wantError(t, text, read(t, text), api.ErrScope)
	}
	// behind more equations than may be
	x := node(api.Tuple, doubled(40), variable("x"))
	wantError(t, "behind what doubles", x, api.ErrScope)
	x = functions(api.MaxEqs, node(api.App, variable("a"), variable("free")))
	wantError(t, "behind many functions", x, api.ErrScope)
	wantError(t, "a wrong one behind a free name", node(api.App, x, node(api.Tuple)), api.ErrArg)
}

// functions is a term in that many functions of a: it has as many equations more.
func functions(n int, x api.Term) api.Term {
	for range n {
		x = named(api.Lam, "a", x)
	}
	return x
}

// doubled is a term that doubles what is kept that many times.
func doubled(n int) api.Term {
	x := variable("x" + strconv.Itoa(n))
	for i := n; i > 0; i-- {
		y := variable("x" + strconv.Itoa(i-1))
		x = named(api.Let, "x"+strconv.Itoa(i), node(api.Tuple, y, y), x)
	}
	return named(api.Let, "x0", num(1), x)
}

func TestOfAsManyAsMayBe(t *testing.T) {
	for what, many := range map[string]func(n int) api.Term{
		"functions": func(n int) api.Term { return functions(n-1, num(1)) },
		"a Let, its own equations": func(n int) api.Term {
			return named(api.Let, "a", functions(n-4, num(1)), functions(1, num(1)))
		},
		"a Let that is meant": func(n int) api.Term {
			half := (n - 2) / 2
			return functions(n-2-2*half, named(api.Let, "x", functions(half-1, num(1)), variable("x")))
		},
		"a Rec that is meant": func(n int) api.Term {
			half := (n - 3) / 2
			return functions(n-2-2*half, named(api.Rec, "x", functions(half-2, num(1)), variable("x")))
		},
		"a Let that is meant twice": func(n int) api.Term {
			third := (n - 4) / 3
			return functions(n-4-3*third, named(api.Let, "x", functions(third-1, num(1)), node(api.App, variable("x"), variable("x"))))
		},
		"an Ann, outermost": func(n int) api.Term { return ann(functions(n-3, num(1)), number()) },
		"an If, outermost": func(n int) api.Term {
			return node(api.If, num(1), num(2), functions(n-6, num(1)))
		},
		"a tuple, outermost": func(n int) api.Term {
			return node(api.Tuple, append(slices.Repeat([]api.Term{num(1)}, 7), functions(n-9, num(1)))...)
		},
		"a Var, the last but one": func(n int) api.Term {
			return node(api.App, functions(n-4, num(1)), functions(1, variable("a")))
		},
	} {
		for _, n := range []int{30, api.MaxEqs - 1, api.MaxEqs} {
			x := many(n)
			want, _ := secondly(x)
			if len(want) != n {
				t.Fatalf("%s: %d equations, not %d", what, len(want), n)
			}
			hold(t, x)
		}
		for n := api.MaxEqs + 1; n < api.MaxEqs+5; n++ {
			hold(t, many(n))
		}
	}
}

func TestOfTermsThatDouble(t *testing.T) {
	for n := range 20 {
		x := doubled(n)
		// An Int has 1, each Let 1 more, and twice what was kept ahead of it and 3 more.
		kept, all := 1, 1+1
		for range n {
			kept = 2*kept + 3
			all += kept + 1
		}
		all += 1 + kept
		got, e := eqs.Of(x, math.MaxInt)
		if all <= api.MaxEqs && (e != api.OK || len(got) != all) || all > api.MaxEqs && e != api.ErrMany {
			t.Errorf("doubled %d times: %d, %v, want %d", n, len(got), e, all)
		}
	}
	for _, n := range []int{50, 100, 1000, 20000} {
		if got, e := eqs.Of(doubled(n), math.MaxInt); e != api.ErrMany || got != nil {
			t.Errorf("doubled %d times: %d, %v", n, len(got), e)
		}
	}
}

// wantFewBytes wants that too many equations are told without laying much.
func wantFewBytes(t *testing.T, what string, x api.Term) {
	t.Helper()
	const few = 1 << 27
	var before, after runtime.MemStats
	runtime.ReadMemStats(&before)
	_, e := eqs.Of(x, math.MaxInt)
	runtime.ReadMemStats(&after)
	if laid := after.TotalAlloc - before.TotalAlloc; e != api.ErrMany || laid > few {
		t.Errorf("%s: %v, %d bytes", what, e, laid)
	}
}

// What is kept isn't laid for each Var behind those that are too many by then.
func TestOfManyThatMeanMany(t *testing.T) {
	x := variable("x")
	for range 1 << 14 {
		x = node(api.App, x, variable("x"))
	}
	wantFewBytes(t, "applications", named(api.Let, "x", functions(3000, num(1)), x))
}

// Types that are too many to be laid aren't, if there are too many equations.
func TestOfGreatTypesThatDouble(t *testing.T) {
	great := number()
	for range 1 << 14 {
		great = arrow(number(), great)
	}
	x := named(api.Lam, "y", variable("y"))
	for range 12 {
		x = named(api.Let, "a", ann(x, great), node(api.App, variable("a"), variable("a")))
	}
	wantFewBytes(t, "annotations", x)
	l := of(t, named(api.Let, "a", ann(num(1), great), node(api.App, variable("a"), variable("a"))))
	for _, i := range []int{1, 2, 4, 5, 8, 9} {
		if !types.Same(l[i].R, great) {
			t.Errorf("the equation %d isn't one of the great type", i)
		}
	}
}

// P17.2

func TestVars(t *testing.T) {
	at := api.Span{From: 1, To: 2}
	eq := func(l, r api.Type) api.Eq { return api.Eq{L: l, R: r, At: at} }
	for what, c := range map[string]struct {
		l    []api.Eq
		want int
	}{
		"none":                      {nil, 0},
		"without elements":          {[]api.Eq{}, 0},
		"without variables":         {[]api.Eq{eq(number(), arrow(number(), number())), {}}, 0},
		"0":                         {[]api.Eq{eq(number(), v(0))}, 1},
		"on the left":               {[]api.Eq{eq(v(7), v(3))}, 8},
		"on the right":              {[]api.Eq{eq(v(3), v(7))}, 8},
		"in one ahead":              {[]api.Eq{eq(v(3), v(9)), eq(v(4), v(2))}, 10},
		"in one behind":             {[]api.Eq{eq(v(3), v(2)), eq(v(4), v(11)), eq(number(), number())}, 12},
		"deep inside":               {[]api.Eq{eq(v(3), arrow(v(1), tuple(v(2), arrow(v(40), v(4)))))}, 41},
		"the last one":              {[]api.Eq{eq(v(1<<30-1), v(3))}, 1 << 30},
		"the number of an int":      {[]api.Eq{eq(typ(api.TInt, 9), typ(0, 8))}, 0},
		"below 0":                   {[]api.Eq{eq(v(-1), v(math.MinInt)), eq(v(-7), number())}, 0},
		"below 0, and others":       {[]api.Eq{eq(v(-1), v(5)), eq(v(-7), number())}, 6},
		"above the last one":        {[]api.Eq{eq(v(1<<30), v(3)), eq(v(1<<40), v(3))}, 1<<40 + 1},
		"parts of a variable":       {[]api.Eq{eq(typ(api.TVar, 2, v(4), typ(77, 1, v(6))), v(3))}, 7},
		"a variable that has parts": {[]api.Eq{eq(typ(api.TVar, 9, v(4)), v(3))}, 10},
		"parts of an int":           {[]api.Eq{eq(typ(api.TInt, 0, v(4)), v(3))}, 5},
		"the greatest int but one":  {[]api.Eq{eq(v(math.MaxInt-1), v(3))}, math.MaxInt},
		"the greatest int":          {[]api.Eq{eq(v(math.MaxInt), v(3))}, math.MaxInt},
	} {
		if got := eqs.Vars(c.l...); got != c.want {
			t.Errorf("%s: %d, want %d", what, got, c.want)
		}
	}
}

func TestCharged(t *testing.T) {
	text := "let i = fun x -> x in (i 1, i true)"
	l := of(t, read(t, text))
	for _, c := range []struct {
		from, to int
		want     []int
	}{
		// what is kept, wherever it is meant
		{17, 18, []int{0, 2, 7}},
		{8, 18, []int{1, 3, 8}},
		{23, 24, []int{4}},
		{25, 26, []int{5}},
		{23, 26, []int{6}},
		{28, 29, []int{9}},
		{30, 34, []int{10}},
		{28, 34, []int{11}},
		{22, 35, []int{12}},
		{0, 35, []int{13}},
		// what none is charged with
		{0, 0, nil},
		{17, 17, nil},
		{18, 17, nil},
		{16, 18, nil},
		{17, 19, nil},
		{4, 5, nil},
		{0, 36, nil},
		{-1, 35, nil},
		{math.MinInt, math.MaxInt, nil},
	} {
		if got := eqs.Charged(l, api.Span{From: c.from, To: c.to}); !slices.Equal(got, c.want) {
			t.Errorf("%d to %d: %v, want %v", c.from, c.to, got, c.want)
		}
	}
	if got := eqs.Charged(nil, api.Span{}); len(got) != 0 {
		t.Errorf("of none: %v", got)
	}
	// of any equations, and spans
	odd := []api.Eq{{At: api.Span{From: 5, To: 3}}, {}, {At: api.Span{From: 3, To: 5}}, {At: api.Span{From: 5, To: 3}}, {At: api.Span{From: 5, To: 5}}}
	for at, want := range map[api.Span][]int{{From: 5, To: 3}: {0, 3}, {}: {1}, {From: 3, To: 5}: {2}, {From: 5, To: 5}: {4}, {From: 4, To: 4}: nil} {
		if got := eqs.Charged(odd, at); !slices.Equal(got, want) {
			t.Errorf("%v: %v, want %v", at, got, want)
		}
	}
}

// Each part of an If, and of an Ann, is charged with its own equations and those that its whole tells of it.
func TestChargedOfIfAndAnn(t *testing.T) {
	text := "if true then (1 : int) else 23"
	l := of(t, read(t, text))
	for at, want := range map[api.Span][]string{
		{From: 3, To: 7}:   {"1 is bool: true", "1 is bool: true"},
		{From: 14, To: 15}: {"3 is int: 1", "3 is int: 1"},
		{From: 13, To: 22}: {"2 is int: (1 : int)", "0 is 2: (1 : int)"},
		{From: 28, To: 30}: {"4 is int: 23", "0 is 4: 23"},
		{From: 0, To: 30}:  nil,
	} {
		if got := lines(text, eqs.Pick(l, eqs.Charged(l, at)...)); !slices.Equal(got, want) {
			t.Errorf("%v: %q, want %q", at, got, want)
		}
	}
}

func TestPick(t *testing.T) {
	l := of(t, read(t, "let i = fun x -> x in (i 1, i true)"))
	for _, c := range []struct{ numbers, want []int }{
		{nil, nil},
		{[]int{}, nil},
		{[]int{0}, []int{0}},
		{[]int{13}, []int{13}},
		{[]int{2, 3, 5}, []int{2, 3, 5}},
		{[]int{5, 3, 2}, []int{5, 3, 2}},
		{[]int{1, 1}, []int{1, 1}},
		{[]int{4, 0, 4, 12, 0, 0}, []int{4, 0, 4, 12, 0, 0}},
		{[]int{-1}, nil},
		{[]int{14}, nil},
		{[]int{math.MaxInt, math.MinInt, 14, -1, 100}, nil},
		{[]int{-1, 7, 14, 2, math.MaxInt, 7}, []int{7, 2, 7}},
	} {
		var want []api.Eq
		for _, i := range c.want {
			want = append(want, l[i])
		}
		if got := eqs.Pick(l, c.numbers...); !sameEqs(got, want) {
			t.Errorf("Pick of %v: %v, want %v", c.numbers, got, want)
		}
	}
	if got := eqs.Pick(nil, 0, 1, -1); len(got) != 0 {
		t.Errorf("of none: %v", got)
	}
	odd := []api.Eq{{L: typ(api.TVar, -4, typ(88, 5)), R: typ(0, 7, tuple()), At: api.Span{From: 9, To: -9}}}
	if got := eqs.Pick(odd, 1, 0, 0); !sameEqs(got, []api.Eq{odd[0], odd[0]}) {
		t.Errorf("of types that aren't right: %v", got)
	}
}

// P17.3

func TestEachIsChargedWithATermsSpan(t *testing.T) {
	text := "let a = fun x -> if x then (x : bool) else let rec f = fun y -> f y in f x in (a true, a, 1)"
	x := read(t, text)
	l := of(t, x)
	spans := term.Spans(x)
	charged := 0
	for i, at := range spans {
		numbers := eqs.Charged(l, at)
		if i > 0 && slices.Contains(spans[:i], at) {
			t.Fatalf("two terms at %v", at)
		}
		if len(numbers) == 0 {
			// An If itself isn't charged with what it tells of its parts.
			if whole, _ := term.Nth(x, i); whole.Kind != api.If {
				t.Errorf("none is charged with %q", text[at.From:at.To])
			}
		}
		charged += len(numbers)
	}
	if charged != len(l) {
		t.Errorf("of %d equations %d are charged with a term's span", len(l), charged)
	}
	// a's first part is gone through once, and meant twice.
	first := x.Parts[0]
	for _, at := range term.Spans(first) {
		if n := len(eqs.Charged(l, at)); n%3 != 0 {
			t.Errorf("%q: %d times", text[at.From:at.To], n)
		}
	}
}

// Rule 4

// scribble changes whatever a type's memory holds, its spare room too.
func scribble(t *api.Type) {
	for i := range t.Parts {
		scribble(&t.Parts[i])
	}
	_ = append(t.Parts, api.Type{Kind: 78})
	*t = api.Type{Kind: 79}
}

// wantOwnMemory wants that no equation that a function answers shares memory with another one, nor with those of another answer.
func wantOwnMemory(t *testing.T, what string, answer func() []api.Eq) {
	t.Helper()
	want := copied(answer())
	for i := range want {
		for _, side := range []func(e *api.Eq) *api.Type{func(e *api.Eq) *api.Type { return &e.L }, func(e *api.Eq) *api.Type { return &e.R }} {
			l := answer()
			scribble(side(&l[i]))
			*side(&l[i]) = *side(&want[i])
			_ = append(l, api.Eq{})
			if !sameEqs(l, want) || !sameEqs(answer(), want) {
				t.Fatalf("%s: the equation %d shares memory", what, i)
			}
		}
	}
}

func TestAnswersAreNewMemory(t *testing.T) {
	x := read(t, "let a = (fun x -> (x, x) : (int * int) -> int) in let rec f = fun y -> (a, f) in (f, f a)")
	before := term.Copy(x)
	wantOwnMemory(t, "Of", func() []api.Eq { return of(t, x) })
	if !term.Equal(x, before) {
		t.Error("Of answers what it is handed")
	}
	l := of(t, x)
	kept := copied(l)
	wantOwnMemory(t, "Pick", func() []api.Eq { return eqs.Pick(l, 3, 4, 3, 5, 5, 2, 1, 0, 20) })
	if !sameEqs(l, kept) {
		t.Error("Pick answers what it is handed")
	}
	at := l[0].At
	numbers := eqs.Charged(l, at)
	want := slices.Clone(numbers)
	for i := range numbers {
		numbers[i] = 77
	}
	if got := eqs.Charged(l, at); !slices.Equal(got, want) {
		t.Error("Charged answers one memory twice")
	}
}

func TestWhatIsHandedInStays(t *testing.T) {
	x := read(t, "let a = (fun x -> (x, x) : (int * int) -> int) in let rec f = fun y -> (a, f) in (f, f a)")
	before := term.Copy(x)
	l := of(t, x)
	if !term.Equal(x, before) {
		t.Error("Of changes what it is handed")
	}
	kept := copied(l)
	numbers := []int{3, -1, 3, 99}
	room := l[:len(l)-1]
	eqs.Vars(room...)
	eqs.Charged(room, l[0].At)
	eqs.Pick(room, numbers[:3]...)
	if !sameEqs(l, kept) || !slices.Equal(numbers, []int{3, -1, 3, 99}) {
		t.Error("what is handed in is changed")
	}
}

// What is asked is the same whenever it is asked, and whatever the Vars have as N.
func TestOfGoesByNames(t *testing.T) {
	x := read(t, "fun x -> let i = fun y -> x in (i, i x)")
	want := of(t, x)
	resolved, _, _ := scope.Resolve(x)
	other := term.Copy(x)
	for todo := []*api.Term{&other}; len(todo) > 0; {
		y := todo[len(todo)-1]
		todo = todo[:len(todo)-1]
		if y.Kind == api.Var {
			y.N = math.MaxInt
		}
		for i := range y.Parts {
			todo = append(todo, &y.Parts[i])
		}
	}
	for _, y := range []api.Term{resolved, other, scope.Rename(x, "a", "b", "c"), scope.Rename(x, "y", "x")} {
		if !sameEqs(of(t, y), want) {
			t.Errorf("%v has other equations", y)
		}
	}
}

// deep ones

func TestDeepTerms(t *testing.T) {
	defer debug.SetMaxStack(debug.SetMaxStack(4 << 20))
	one := variable("x")
	for what, around := range map[string]func(x api.Term) api.Term{
		"functions":       func(x api.Term) api.Term { return named(api.Lam, "y", x) },
		"let":             func(x api.Term) api.Term { return named(api.Let, "y", one, x) },
		"within let":      func(x api.Term) api.Term { return named(api.Let, "y", x, one) },
		"let rec":         func(x api.Term) api.Term { return named(api.Rec, "y", one, x) },
		"within let rec":  func(x api.Term) api.Term { return named(api.Rec, "y", x, variable("y")) },
		"applications":    func(x api.Term) api.Term { return node(api.App, x, one) },
		"to the right":    func(x api.Term) api.Term { return node(api.App, one, x) },
		"if":              func(x api.Term) api.Term { return node(api.If, one, one, x) },
		"tuples":          func(x api.Term) api.Term { return node(api.Tuple, one, x, one) },
		"annotated again": func(x api.Term) api.Term { return ann(x, number()) },
	} {
		x := one
		for range deep {
			x = around(x)
		}
		for want, y := range map[api.Errno]api.Term{
			api.ErrScope: x,
			api.ErrArg:   node(api.App, x, api.Term{}),
			api.ErrMany:  named(api.Lam, "x", x),
		} {
			if got, e := eqs.Of(y, math.MaxInt); e != want || got != nil {
				t.Errorf("%s: %d equations, %v, want %v", what, len(got), e, want)
			}
		}
	}
}

func TestDeepTypes(t *testing.T) {
	defer debug.SetMaxStack(debug.SetMaxStack(4 << 20))
	far := number()
	for range deep {
		far = arrow(far, number())
	}
	l := of(t, named(api.Let, "x", ann(num(1), far), variable("x")))
	want := []api.Type{number(), far, far, number(), far, far, v(4), v(3)}
	if len(l) != len(want) {
		t.Fatalf("%d equations", len(l))
	}
	for i, e := range l {
		if !types.Same(e.R, want[i]) {
			t.Errorf("the equation %d", i)
		}
	}
	if n := eqs.Vars(append(eqs.Pick(l, 1, 2, 7), api.Eq{L: far, R: arrow(far, v(9))})...); n != 10 {
		t.Errorf("Vars of deep types: %d", n)
	}
}
