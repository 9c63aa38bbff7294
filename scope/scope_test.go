package scope_test

import (
	"math"
	"runtime/debug"
	"slices"
	"strconv"
	"strings"
	"testing"

	"pangram/api"
	"pangram/parse"
	"pangram/pretty"
	"pangram/scope"
	"pangram/signature"
	"pangram/term"
)

const deep = 1 << 17 // levels: calls within calls as deep would take more than the stack that TestDeepTerms gives

func variable(name string, n int) api.Term { return api.Term{Kind: api.Var, Name: name, N: n} }

func num(n int) api.Term { return api.Term{Kind: api.Int, N: n} }

func node(kind int, parts ...api.Term) api.Term { return api.Term{Kind: kind, Parts: parts} }

func named(kind int, name string, parts ...api.Term) api.Term {
	return api.Term{Kind: kind, Name: name, Parts: parts}
}

// read is the term of a text, with spans.
func read(t *testing.T, s string) api.Term {
	t.Helper()
	x, _, e := parse.Term(s, math.MaxInt)
	if e != api.OK {
		t.Fatalf("no term: %q", s)
	}
	return x
}

// indices is what the Vars have as N, in order.
func indices(x api.Term) []int {
	var l []int
	walk(&x, func(x *api.Term) {
		if x.Kind == api.Var {
			l = append(l, x.N)
		}
	})
	return l
}

// walk goes through a term's terms, in order.
func walk(x *api.Term, visit func(x *api.Term)) {
	visit(x)
	for i := range x.Parts {
		walk(&x.Parts[i], visit)
	}
}

// with is a term with another one in it, by its number.
func with(x api.Term, i int, part api.Term) api.Term {
	x = term.Copy(x)
	walk(&x, func(y *api.Term) {
		if i == 0 {
			*y = part
		}
		i--
	})
	return x
}

// scribble changes whatever a term's memory holds, its spare room too.
func scribble(x *api.Term) {
	for i := range x.Parts {
		scribble(&x.Parts[i])
	}
	for i := range x.Type.Parts {
		x.Type.Parts[i] = api.Type{Kind: 77}
	}
	_ = append(x.Type.Parts, api.Type{Kind: 78})
	_ = append(x.Parts, api.Term{Kind: 78})
	*x = api.Term{Kind: 79}
}

// wrongTerms is terms that aren't right, by what is wrong with them.
func wrongTerms() map[string]api.Term {
	x := variable("x", 0)
	l := map[string]api.Term{
		"the zero one":             {},
		"a kind above 10":          named(11, "x", x),
		"no name":                  variable("", 0),
		"a word as name":           variable("let", 0),
		"a variable below 0":       variable("x", -1),
		"a variable with parts":    named(api.Var, "x", x),
		"a number below 0":         num(-1),
		"a truth of 2":             {Kind: api.Bool, N: 2},
		"a function without parts": named(api.Lam, "x"),
		"a function of two":        named(api.Lam, "x", x, x),
		"a function of no name":    named(api.Lam, "X", x),
		"let of one":               named(api.Let, "x", num(1)),
		"let without parts":        named(api.Let, "x"),
		"let rec of three":         named(api.Rec, "x", x, x, x),
		"let rec without parts":    named(api.Rec, "x"),
		"an application of one":    node(api.App, num(1)),
		"a tuple of one":           node(api.Tuple, num(1)),
		"an annotation of no type": node(api.Ann, num(1)),
	}
	for what, y := range l {
		l[what+", inside"] = named(api.Lam, "x", node(api.App, num(1), y))
	}
	return l
}

// smallTerms is right terms of up to so many levels, of two names.
func smallTerms(depth int) []api.Term {
	l := []api.Term{variable("x", 0), variable("y", 3), num(1)}
	if depth == 1 {
		return l
	}
	for _, a := range smallTerms(depth - 1) {
		l = append(l, named(api.Lam, "x", a), named(api.Lam, "y", a))
		for _, b := range smallTerms(depth - 1) {
			l = append(l, named(api.Let, "x", a, b), named(api.Rec, "x", a, b), node(api.App, a, b))
			if depth == 2 {
				l = append(l, named(api.Let, "y", a, b), named(api.Rec, "y", a, b), node(api.If, a, b, a), node(api.Tuple, b, a))
			}
		}
	}
	return l
}

// looked is what is told of a term by calls within calls: each Var's binder's number, or -1; its index; the binders' names.
type looked struct {
	meant, index []int
	bound        []string
}

// look goes through a term with the numbers of the binders around it, from the outermost on.
func (l *looked) look(x api.Term, around []int) {
	if x.Kind == api.Var {
		meant, index := -1, 0
		for i, number := range around {
			if l.bound[number] == x.Name {
				meant, index = number, len(around)-1-i
			}
		}
		l.meant, l.index = append(l.meant, meant), append(l.index, index)
	}
	inside := around
	switch x.Kind {
	case api.Lam, api.Let, api.Rec:
		inside = append(slices.Clone(around), len(l.bound))
		l.bound = append(l.bound, x.Name)
	}
	for i, part := range x.Parts {
		if x.Kind == api.Let && i == 0 {
			l.look(part, around)
			continue
		}
		l.look(part, inside)
	}
}

func lookAt(x api.Term) looked {
	var l looked
	l.look(x, nil)
	return l
}

// told writes a term without spans, with what its Vars mean in place of names that bind.
func told(x api.Term) string {
	l, i := lookAt(x), 0
	var b strings.Builder
	walk(&x, func(x *api.Term) {
		b.WriteString("(" + strconv.Itoa(x.Kind) + "." + strconv.Itoa(len(x.Parts)))
		if x.Kind != api.Var {
			b.WriteString("." + strconv.Itoa(x.N) + strconv.Itoa(x.Type.Kind))
			return
		}
		if l.meant[i] < 0 {
			b.WriteString(x.Name)
		} else {
			b.WriteString(strconv.Itoa(l.index[i]))
		}
		i++
	})
	return b.String()
}

// P8.1

func TestResolve(t *testing.T) {
	for text, want := range map[string][]int{
		"fun x -> x":                                 {0},
		"fun x -> fun y -> x":                        {1},
		"fun x -> fun y -> y":                        {0},
		"fun x -> fun y -> fun z -> (x, y, z)":       {2, 1, 0},
		"fun x -> fun x -> x":                        {0},
		"fun x -> (fun x -> x, x)":                   {0, 0},
		"fun x -> fun y -> fun x -> (x, y)":          {0, 1},
		"fun x -> (fun y -> fun x -> x, x)":          {0, 0},
		"let x = 1 in x":                             {0},
		"fun x -> let x = x in x":                    {0, 0},
		"fun x -> let y = x in x":                    {0, 1},
		"fun x -> let y = fun z -> x in (x, y)":      {1, 1, 0},
		"fun x -> fun y -> let y = y in (x, y)":      {0, 2, 0},
		"let rec f = f in f":                         {0, 0},
		"let rec f = fun x -> f x in f":              {1, 0, 0},
		"fun f -> let rec f = f in f":                {0, 0},
		"fun x -> let rec f = x in x":                {1, 1},
		"let rec f = fun f -> f in f":                {0, 0},
		"let rec f = let f = f in f in f":            {0, 0, 0},
		"let rec f = let g = f in f in f":            {0, 1, 0},
		"let i = fun x -> x in (i 1, i true)":        {0, 0, 0},
		"fun a -> (fun b -> a, fun c -> a, a)":       {1, 1, 0},
		"fun a -> if a then a else fun b -> a b":     {0, 0, 1, 0},
		"fun a -> ((a : int) : int)":                 {0},
		"fun a -> (let b = a in b) (let b = a in b)": {0, 0, 0, 0},
		"1":                            nil,
		"(true, fun x -> 2)":           nil,
		"fun recs -> fun rec_ -> recs": {1},
	} {
		x := read(t, text)
		got, at, e := scope.Resolve(x)
		if e != api.OK || at != (api.Span{}) || !slices.Equal(indices(got), want) {
			t.Errorf("Resolve(%q) has the indices %v, %v, %d, want %v", text, indices(got), at, e, want)
		}
		if !term.Same(got, x) || !slices.Equal(term.Spans(got), term.Spans(x)) {
			t.Errorf("Resolve(%q) is another term: %v", text, got)
		}
		again, _, e := scope.Resolve(got)
		if e != api.OK || !term.Equal(again, got) {
			t.Errorf("Resolve of Resolve of %q = %v, %d", text, again, e)
		}
	}
}

func TestResolveGoesByNames(t *testing.T) {
	x := named(api.Lam, "x", named(api.Lam, "y", node(api.App, variable("x", 0), variable("y", math.MaxInt))))
	if got, _, e := scope.Resolve(x); e != api.OK || !slices.Equal(indices(got), []int{1, 0}) {
		t.Errorf("Resolve of other indices: %v, %d", got, e)
	}
}

func TestResolveOfFreeNames(t *testing.T) {
	for text, from := range map[string]int{
		"y":                                 0,
		"fun x -> y":                        9,
		"x y":                               0,
		"fun x -> x y z":                    11,
		"let x = x in x":                    8,
		"let x = 1 in (x, fun y -> (y, z))": 30,
		"(let x = 1 in x, x)":               17,
		"(fun x -> x) x":                    13,
		"(let rec f = f in f) f":            21,
		"let rec f = g in h":                12,
		"if fun a -> b then c else d":       12,
		"(fun x -> x, let y = fun x -> x in (y, x), z)": 39,
		"((a : int), b)": 2,
	} {
		got, at, e := scope.Resolve(read(t, text))
		if e != api.ErrScope || at != (api.Span{From: from, To: from + 1}) || !term.Equal(got, api.Term{}) {
			t.Errorf("Resolve(%q) = %v, %v, %d, want %d", text, got, at, e, from)
		}
	}
	free := api.Term{Kind: api.Var, Name: "x", N: 5, At: api.Span{From: 9, To: -4}}
	if _, at, e := scope.Resolve(node(api.App, free, variable("x", 0))); e != api.ErrScope || at != free.At {
		t.Errorf("Resolve of any span: %v, %d", at, e)
	}
}

func TestWrongTerms(t *testing.T) {
	identity := named(api.Lam, "x", variable("x", 0))
	for what, x := range wrongTerms() {
		x.At = api.Span{From: 3, To: 4}
		if got, at, e := scope.Resolve(x); e != api.ErrArg || at != (api.Span{}) || !term.Equal(got, api.Term{}) {
			t.Errorf("%s: Resolve = %v, %v, %d", what, got, at, e)
		}
		if free, bound := scope.Free(x), scope.Bound(x); len(free) != 0 || len(bound) != 0 {
			t.Errorf("%s: Free = %v, Bound = %v", what, free, bound)
		}
		if scope.Alike(x, x) || scope.Alike(x, identity) || scope.Alike(identity, x) {
			t.Errorf("%s is Alike", what)
		}
		if got := scope.Rename(x, "a", "b"); !term.Equal(got, x) {
			t.Errorf("%s: Rename = %v", what, got)
		}
	}
}

func TestFree(t *testing.T) {
	for text, want := range map[string][]string{
		"x":                                     {"x"},
		"1":                                     nil,
		"fun x -> x":                            nil,
		"fun x -> y":                            {"y"},
		"y x y z x":                             {"y", "x", "z"},
		"let x = x in x":                        {"x"},
		"let x = y in (x, z, y)":                {"y", "z"},
		"let rec f = f g in f h":                {"g", "h"},
		"(fun x -> x, x)":                       {"x"},
		"(x, fun x -> x)":                       {"x"},
		"(let b = a in b) (let a = b in a)":     {"a", "b"},
		"let y = fun x -> x in x y":             {"x"},
		"if c then b else a":                    {"c", "b", "a"},
		"fun a -> ((b : int) : int)":            {"b"},
		"fun x -> (fun x -> x y, x) y":          {"y"},
		"let rec f = let f = f in f in f":       nil,
		"(let rec f = f in f) (f (fun f -> f))": {"f"},
	} {
		if got := scope.Free(read(t, text)); !slices.Equal(got, want) {
			t.Errorf("Free(%q) = %v, want %v", text, got, want)
		}
	}
}

func TestBound(t *testing.T) {
	for text, want := range map[string][]string{
		"x":                                    nil,
		"f x (1, true)":                        nil,
		"fun x -> y":                           {"x"},
		"fun x -> fun x -> x":                  {"x", "x"},
		"let a = fun b -> 1 in fun c -> 2":     {"a", "b", "c"},
		"let rec a = fun b -> 1 in fun c -> 2": {"a", "b", "c"},
		"(fun z -> z) (let y = 1 in let rec z = 2 in fun z -> 3)": {"z", "y", "z", "z"},
		"if fun a -> 1 then fun b -> 2 else (fun a -> 3 : int)":   {"a", "b", "a"},
		"(fun a -> 1, 2, fun b -> 3, fun a -> 4)":                 {"a", "b", "a"},
	} {
		if got := scope.Bound(read(t, text)); !slices.Equal(got, want) {
			t.Errorf("Bound(%q) = %v, want %v", text, got, want)
		}
	}
}

// P8.2

func TestAlike(t *testing.T) {
	for _, c := range []struct {
		a, b string
		want bool
	}{
		{"x", "x", true},
		{"x", " ( x )", true},
		{"x", "y", false},
		{"x", "1", false},
		{"1", "2", false},
		{"true", "false", false},
		{"fun x -> x", "fun y -> y", true},
		{"fun x -> y", "fun y -> y", false},
		{"fun x -> y", "fun x -> z", false},
		{"fun x -> z", "fun y -> z", true},
		{"fun x -> fun y -> x", "fun y -> fun x -> y", true},
		{"fun x -> fun y -> x", "fun x -> fun x -> x", false},
		{"fun x -> fun y -> y", "fun x -> fun x -> x", true},
		{"fun x -> fun y -> x", "fun x -> fun y -> y", false},
		{"let x = 1 in x", "let y = 1 in y", true},
		{"let x = x in x", "let y = x in y", true},
		{"let x = x in x", "let y = y in y", false},
		{"let x = y in x", "let x = y in y", false},
		{"let x = 1 in x", "let rec x = 1 in x", false},
		{"let rec f = f in f", "let rec g = g in g", true},
		{"let rec f = f in f", "let rec g = f in g", false},
		{"let rec f = g in f", "let rec g = g in g", false},
		{"fun x -> let x = x in x", "fun a -> let b = a in b", true},
		{"fun x -> let x = x in x", "fun a -> let b = a in a", false},
		{"(fun x -> x) x", "(fun y -> y) x", true},
		{"(fun x -> x) x", "(fun y -> y) y", false},
		{"(1 : int)", "(1 : bool)", false},
		{"(1 : int -> int)", "(1 : int -> int)", true},
		{"(1 : int -> int)", "(1 : int -> bool)", false},
		{"(x, y)", "(x, y, y)", false},
		{"(x, y)", "x y", false},
		{"f x y", "f (x y)", false},
		{"fun x -> (x, x)", "fun x -> (x, (x))", true},
	} {
		a, b := read(t, c.a), read(t, c.b)
		if scope.Alike(a, b) != c.want || scope.Alike(b, a) != c.want {
			t.Errorf("Alike(%q, %q) isn't %v", c.a, c.b, c.want)
		}
		if !scope.Alike(a, a) || !scope.Alike(b, b) {
			t.Errorf("%q or %q isn't Alike itself", c.a, c.b)
		}
	}
}

func TestAlikeWhateverIndicesAndSpans(t *testing.T) {
	free, other := variable("x", 0), variable("x", 7)
	other.At = api.Span{From: 5, To: -5}
	if !scope.Alike(free, other) || !scope.Alike(named(api.Lam, "y", free), named(api.Lam, "z", other)) {
		t.Error("a free Var's N or span counts")
	}
	if !scope.Alike(named(api.Lam, "x", free), named(api.Lam, "x", other)) {
		t.Error("a Var's N counts")
	}
	// Not by N, but by its name a Var means a binder.
	a := named(api.Lam, "x", named(api.Lam, "y", variable("x", 0)))
	b := named(api.Lam, "x", named(api.Lam, "y", variable("y", 0)))
	if scope.Alike(a, b) || scope.Alike(named(api.Lam, "y", variable("x", 0)), named(api.Lam, "x", variable("x", 0))) {
		t.Error("Vars of one N mean the same")
	}
	if !scope.Alike(api.Term{Kind: api.Int, Parts: []api.Term{}, Type: api.Type{Parts: []api.Type{}}}, num(0)) {
		t.Error("a list without elements isn't the same as none")
	}
}

// Terms that differ only in what doesn't count aren't Alike, if one isn't right.
func TestAlikeOfOneThatIsNotRight(t *testing.T) {
	free := variable("x", 0)
	for _, c := range [][2]api.Term{
		{free, variable("x", -1)},
		{named(api.Lam, "y", free), named(api.Lam, "Y", free)},
		{named(api.Lam, "y", free), named(api.Lam, "", free)},
		{named(api.Lam, "y", variable("y", 0)), named(api.Lam, "y", variable("y", -1))},
		{named(api.Lam, "y", variable("y", 0)), named(api.Lam, "in", variable("in", 0))},
		{named(api.Let, "y", free, free), named(api.Let, "let", free, free)},
		{named(api.Rec, "y", free, variable("y", 0)), named(api.Rec, "1", free, variable("1", 0))},
	} {
		if scope.Alike(c[0], c[1]) || scope.Alike(c[1], c[0]) || scope.Alike(c[1], c[1]) || !scope.Alike(c[0], c[0]) {
			t.Errorf("%v and %v", c[0], c[1])
		}
	}
}

func TestRename(t *testing.T) {
	for _, c := range []struct {
		text string
		l    []string
		want string
	}{
		{"fun x -> x", nil, "fun x -> x"},
		{"fun x -> x", []string{"y"}, "fun y -> y"},
		{"fun x -> x", []string{"x"}, "fun x -> x"},
		{"fun x -> x", []string{"y", "z", "in"}, "fun y -> y"},
		{"x y", []string{"a", "b"}, "x y"},
		{"1", []string{"a"}, "1"},
		// too few
		{"fun x -> fun y -> (x, y)", []string{"a"}, "fun a -> fun y -> (a, y)"},
		{"fun x -> fun y -> (x, y)", []string{"a", "b"}, "fun a -> fun b -> (a, b)"},
		{"fun x -> fun y -> (x, y)", []string{"y", "x"}, "fun y -> fun x -> (y, x)"},
		{"let f = fun x -> x in let rec g = f in g f", []string{"a", "b"}, "let a = fun b -> b in let rec g = a in g a"},
		// names that may not be
		{"fun x -> fun y -> (x, y)", []string{"", "b"}, "fun x -> fun b -> (x, b)"},
		{"fun x -> fun y -> (x, y)", []string{"in", "b"}, "fun x -> fun b -> (x, b)"},
		{"fun x -> fun y -> (x, y)", []string{"a", "B"}, "fun a -> fun y -> (a, y)"},
		{"fun x -> fun y -> (x, y)", []string{"a b", "1"}, "fun x -> fun y -> (x, y)"},
		{"fun x -> x", []string{"é"}, "fun x -> x"},
		{"fun x -> x", []string{"_", "y"}, "fun x -> x"},
		{"fun x -> x", []string{strings.Repeat("a", 21)}, "fun x -> x"},
		{"fun x -> x", []string{strings.Repeat("a", 20)}, "fun " + strings.Repeat("a", 20) + " -> " + strings.Repeat("a", 20)},
		// names that would catch another Var
		{"fun x -> y", []string{"y"}, "fun x -> y"},
		{"fun x -> fun y -> x", []string{"y"}, "fun x -> fun y -> x"},
		{"fun x -> fun y -> x", []string{"a", "a"}, "fun x -> fun y -> x"},
		{"fun x -> fun y -> y", []string{"a", "a"}, "fun a -> fun a -> a"},
		{"fun x -> fun y -> y", []string{"y"}, "fun y -> fun y -> y"},
		{"(fun a -> a, fun x -> y)", []string{"b", "y"}, "(fun a -> a, fun x -> y)"},
		{"let x = y in x", []string{"y"}, "let y = y in y"},
		{"let rec x = y in x", []string{"y"}, "let rec x = y in x"},
		{"let x = y in x y", []string{"y"}, "let x = y in x y"},
		// those that are called the same, each on its own
		{"fun x -> (x, fun x -> x, x)", []string{"a", "b"}, "fun a -> (a, fun b -> b, a)"},
		{"fun x -> (x, fun x -> x, x)", []string{"x", "b"}, "fun x -> (x, fun b -> b, x)"},
		{"fun x -> (x, fun x -> x, x)", []string{"a"}, "fun a -> (a, fun x -> x, a)"},
		{"fun x -> let x = x in x", []string{"a", "b"}, "fun a -> let b = a in b"},
		{"fun x -> let rec x = x in x", []string{"a", "b"}, "fun a -> let rec b = b in b"},
		{"(fun x -> x) x", []string{"z"}, "(fun z -> z) x"},
		{"let x = x in x", []string{"z"}, "let z = x in z"},
		{"let rec f = fun x -> f x in f", []string{"g", "y"}, "let rec g = fun y -> g y in g"},
		{"(fun x -> x, fun x -> x, fun x -> x)", []string{"a", "in", "b"}, "(fun a -> a, fun x -> x, fun b -> b)"},
		{"if (fun x -> x : int) then let y = 1 in y else z", []string{"p", "q"}, "if (fun p -> p : int) then let q = 1 in q else z"},
	} {
		x := read(t, c.text)
		got := scope.Rename(x, c.l...)
		if text := pretty.Print(got); text != c.want {
			t.Errorf("Rename(%q, %q) = %q, want %q", c.text, c.l, text, c.want)
		}
		if !slices.Equal(term.Spans(got), term.Spans(x)) || !slices.Equal(indices(got), indices(x)) {
			t.Errorf("Rename(%q, %q) changes more than names: %v", c.text, c.l, got)
		}
	}
	x := named(api.Lam, "x", node(api.App, variable("x", 4), variable("y", 5)))
	if got, want := scope.Rename(x, "z"), named(api.Lam, "z", node(api.App, variable("z", 4), variable("y", 5))); !term.Equal(got, want) {
		t.Errorf("Rename = %v, want %v", got, want)
	}
}

// Rule 4

func TestAnswersAreNewMemory(t *testing.T) {
	text := "let f = fun x -> ((x : int -> int), f) in let rec g = f in g (fun y -> g)"
	for what, of := range map[string]func(x api.Term) api.Term{
		"Resolve":             func(x api.Term) api.Term { y, _, _ := scope.Resolve(named(api.Lam, "f", x)); return y },
		"Rename":              func(x api.Term) api.Term { return scope.Rename(x, "a", "b", "c", "d") },
		"Rename of none":      func(x api.Term) api.Term { return scope.Rename(x) },
		"Rename that catches": func(x api.Term) api.Term { return scope.Rename(x, "a", "f") },
		"Rename of a wrong":   func(x api.Term) api.Term { return scope.Rename(node(api.App, x), "a") },
	} {
		x := read(t, text)
		before, first := term.Copy(x), of(x)
		if first.Kind == 0 {
			t.Fatalf("%s answers none", what)
		}
		want := term.Copy(first)
		scribble(&first)
		if !term.Equal(x, before) {
			t.Errorf("%s answers, or changes, what it is handed", what)
		}
		if second := of(x); !term.Equal(second, want) {
			t.Errorf("%s answers one memory twice", what)
		}
	}
	x := read(t, "fun x -> fun y -> a b")
	free, bound := scope.Free(x), scope.Bound(x)
	free[0], bound[0] = "changed", "changed"
	if !slices.Equal(scope.Free(x), []string{"a", "b"}) || !slices.Equal(scope.Bound(x), []string{"x", "y"}) {
		t.Error("Free or Bound answers one memory twice")
	}
}

func TestWhatIsHandedInStays(t *testing.T) {
	x, y := read(t, "let f = fun x -> f in fun g -> f g"), read(t, "let a = fun b -> f in fun c -> a c")
	before, other := term.Copy(x), term.Copy(y)
	names := []string{"p", "in", "q"}
	scope.Resolve(x)
	scope.Free(x)
	scope.Bound(x)
	if !scope.Alike(x, y) {
		t.Error("not Alike")
	}
	scope.Rename(x, names[:2]...)
	if !term.Equal(x, before) || !term.Equal(y, other) || !slices.Equal(names, []string{"p", "in", "q"}) {
		t.Errorf("what is handed in is changed: %v, %v, %v", x, y, names)
	}
}

// P8.3, and P8.1, P8.2 by a second way

func TestSmallTerms(t *testing.T) {
	for _, x := range smallTerms(3) {
		l := lookAt(x)
		var names, free []string
		walk(&x, func(y *api.Term) {
			if y.Kind == api.Var {
				names = append(names, y.Name)
			}
		})
		for i, name := range names {
			if l.meant[i] < 0 && !slices.Contains(free, name) {
				free = append(free, name)
			}
		}
		if got := scope.Free(x); !slices.Equal(got, free) {
			t.Fatalf("Free(%v) = %v, want %v", x, got, free)
		}
		if got := scope.Bound(x); !slices.Equal(got, l.bound) {
			t.Fatalf("Bound(%v) = %v, want %v", x, got, l.bound)
		}
		got, _, e := scope.Resolve(x)
		if len(free) > 0 != (e == api.ErrScope) || e == api.OK && (!slices.Equal(indices(got), l.index) || !term.Same(got, x)) {
			t.Fatalf("Resolve(%v) = %v, %d, want %v", x, got, e, l.index)
		}
		checkRename(t, x, l)
	}
}

// checkRename holds a term with other names against one that is the same by calls within calls.
func checkRename(t *testing.T, x api.Term, l looked) {
	t.Helper()
	for _, names := range [][]string{{"y"}, {"z", "x"}, {"in", "z", "z"}, {"y", "x", "y", "x"}, {"a", "b", "c", "d", "e", "f", "g"}} {
		want, binder, v := term.Copy(x), 0, 0
		called := slices.Clone(l.bound)
		for i, name := range names {
			if i < len(called) && name != "in" {
				called[i] = name
			}
		}
		walk(&want, func(y *api.Term) {
			switch y.Kind {
			case api.Lam, api.Let, api.Rec:
				y.Name = called[binder]
				binder++
			case api.Var:
				if l.meant[v] >= 0 {
					y.Name = called[l.meant[v]]
				}
				v++
			}
		})
		if told(want) != told(x) {
			want = x
		}
		if got := scope.Rename(x, names...); !term.Equal(got, want) {
			t.Fatalf("Rename(%v, %v) = %v, want %v", x, names, got, want)
		}
	}
}

func TestAllPairsOfSmallTerms(t *testing.T) {
	l := smallTerms(2)
	var texts []string
	for _, x := range l {
		l = append(l, named(api.Lam, "x", x), named(api.Rec, "y", x, variable("y", 0)))
	}
	for _, x := range l {
		texts = append(texts, told(x))
	}
	for i, a := range l {
		for j, b := range l {
			if got, want := scope.Alike(a, b), texts[i] == texts[j]; got != want {
				t.Fatalf("Alike(%v, %v) = %v", a, b, got)
			}
		}
	}
}

// Whatever is changed in one term but its span, or a Var's N, makes another one.
func TestEachFieldCountsForAlike(t *testing.T) {
	x := read(t, "let f = fun x -> if x then (f : int -> int) else (1, true) in let rec g = f in g free")
	for i, y := range term.All(x) {
		changed := []api.Term{y, y, y}
		changed[0].Kind = y.Kind%api.Ann + 1
		changed[1].Type = api.Type{Kind: api.TBool}
		changed[2].Parts = append(slices.Clip(changed[2].Parts), num(1))
		for j, z := range changed {
			if scope.Alike(x, with(x, i, z)) {
				t.Errorf("Alike, though term %d is changed by %d", i, j)
			}
		}
		y.At = api.Span{From: -1, To: -2}
		if !scope.Alike(x, with(x, i, y)) {
			t.Errorf("not Alike, as the span of term %d is another one", i)
		}
	}
}

func TestAlikeOnesResolvedAreTheSame(t *testing.T) {
	kinds, e := signature.Parse("int -> bool")
	if e != api.OK {
		t.Fatal("no type")
	}
	of := func(f, x, g string) api.Term {
		inner := node(api.App, variable(f, 1), api.Term{Kind: api.Ann, Type: kinds, Parts: []api.Term{variable(g, 9)}})
		return named(api.Rec, f, named(api.Lam, x, node(api.App, variable(f, 0), variable(x, 0))), named(api.Let, g, variable(f, 2), inner))
	}
	a, b := of("f", "x", "g"), of("one", "two", "three")
	if !scope.Alike(a, b) {
		t.Fatal("not Alike")
	}
	left, _, leftE := scope.Resolve(a)
	right, _, rightE := scope.Resolve(b)
	if leftE != api.OK || rightE != api.OK || !slices.Equal(indices(left), indices(right)) || !slices.Equal(indices(left), []int{1, 0, 0, 1, 0}) {
		t.Errorf("resolved: %v, %v", left, right)
	}
}

// TestDeepTerms wants of right terms of that many levels the greatest index of their Vars.
func TestDeepTerms(t *testing.T) {
	defer debug.SetMaxStack(debug.SetMaxStack(4 << 20))
	for what, c := range map[string]struct {
		around   func(t api.Term) api.Term
		greatest int
	}{
		"functions":    {func(t api.Term) api.Term { return named(api.Lam, "y", t) }, deep},
		"let":          {func(t api.Term) api.Term { return named(api.Let, "y", variable("x", 0), t) }, deep},
		"within let":   {func(t api.Term) api.Term { return named(api.Let, "y", t, variable("x", 0)) }, 1},
		"let rec":      {func(t api.Term) api.Term { return named(api.Rec, "y", t, variable("y", 0)) }, deep},
		"applications": {func(t api.Term) api.Term { return node(api.App, t, variable("x", 0)) }, 0},
	} {
		x := variable("x", 0)
		for range deep {
			x = c.around(x)
		}
		if got := scope.Free(x); !slices.Equal(got, []string{"x"}) {
			t.Errorf("%s: Free = %v", what, got)
		}
		x = named(api.Lam, "x", x)
		got, _, e := scope.Resolve(x)
		if e != api.OK || greatest(got) != c.greatest {
			t.Errorf("%s: the index %d, %d, want %d", what, greatest(got), e, c.greatest)
		}
		names := slices.Repeat([]string{"z"}, len(scope.Bound(x)))
		names[0] = "a"
		other := scope.Rename(x, names...)
		if !scope.Alike(other, x) || term.Same(other, x) || !slices.Equal(scope.Bound(other), names) {
			t.Errorf("%s: called by other names, it isn't the same", what)
		}
	}
}

// greatest is the greatest index of a resolved term's Vars.
func greatest(x api.Term) int {
	most := 0
	for todo := []api.Term{x}; len(todo) > 0; {
		x := todo[len(todo)-1]
		todo = append(todo[:len(todo)-1], x.Parts...)
		if x.Kind == api.Var {
			most = max(most, x.N)
		}
	}
	return most
}

// As many Vars as binders around them take no more than a look each.
func TestManyNamesAround(t *testing.T) {
	x := node(api.Tuple, variable("a0", 0), variable("a0", 0))
	for range deep {
		x = node(api.App, x, variable("a0", 0))
	}
	for i := deep; i >= 0; i-- {
		x = named(api.Lam, "a"+strconv.Itoa(i), x)
	}
	got, _, e := scope.Resolve(x)
	if e != api.OK || !scope.Alike(got, x) {
		t.Fatal("not resolved", e)
	}
	for got.Kind == api.Lam {
		got = got.Parts[0]
	}
	if n := got.Parts[1].N; n != deep {
		t.Errorf("the index %d, want %d", n, deep)
	}
}
