package count_test

import (
	"maps"
	"math"
	"math/big"
	"math/rand/v2"
	"runtime/debug"
	"slices"
	"strconv"
	"testing"

	"pangram/api"
	"pangram/count"
	"pangram/eqs"
	"pangram/parse"
	"pangram/pretty"
	"pangram/scope"
	"pangram/term"
)

const deep = 1 << 17 // levels: calls within calls as deep would take more than the stack that TestDeepTerms gives

const most = 1 << 40 // the greatest number of equations, or variables, that is told

func variable(name string) api.Term { return api.Term{Kind: api.Var, Name: name} }

func num(n int) api.Term { return api.Term{Kind: api.Int, N: n} }

func node(kind int, parts ...api.Term) api.Term { return api.Term{Kind: kind, Parts: parts} }

func named(kind int, name string, parts ...api.Term) api.Term {
	return api.Term{Kind: kind, Name: name, Parts: parts}
}

func ann(x api.Term) api.Term {
	return api.Term{Kind: api.Ann, Type: api.Type{Kind: api.TInt}, Parts: []api.Term{x}}
}

// read is the term of a text, with spans.
func read(t *testing.T, s string) api.Term {
	t.Helper()
	x, _, e := parse.Term(s, math.MaxInt)
	if e != api.OK {
		t.Fatalf("no term: %q", s)
	}
	return x
}

// wrongTerms is terms that aren't right, by what is wrong with them.
func wrongTerms() map[string]api.Term {
	x := variable("x")
	l := map[string]api.Term{
		"the zero one":                      {},
		"a kind above 10":                   named(11, "x", x),
		"no name":                           variable(""),
		"a word as name":                    variable("let"),
		"a variable below 0":                {Kind: api.Var, Name: "x", N: -1},
		"a number below 0":                  num(-1),
		"a truth of 2":                      {Kind: api.Bool, N: 2},
		"a function without parts":          named(api.Lam, "x"),
		"a function of two":                 named(api.Lam, "x", x, x),
		"let of one":                        named(api.Let, "x", num(1)),
		"let without parts":                 named(api.Let, "x"),
		"let rec of three":                  named(api.Rec, "x", x, x, x),
		"an application of one":             node(api.App, num(1)),
		"if of two":                         node(api.If, num(1), num(2)),
		"a tuple of one":                    node(api.Tuple, num(1)),
		"an annotation of no type":          node(api.Ann, num(1)),
		"a free name ahead of what's wrong": node(api.App, variable("free"), node(api.Tuple)),
	}
	for what, y := range maps.Clone(l) {
		l[what+", inside"] = named(api.Lam, "x", node(api.App, num(1), y))
	}
	return l
}

// known is what a name means, a second way: which binder, and how many equations and variables that one keeps.
type known struct{ binder, eqs, vars int }

// second counts a second way, by calls within calls, without an end to its numbers.
type second struct{ uses []int }

// count is how many equations and variables a term has, if what it is made of does.
func (s *second) count(x api.Term, around map[string]known) (int, int) {
	eqs, vars := 1, 1
	in := func(part int, around map[string]known) (int, int) {
		e, v := s.count(x.Parts[part], around)
		eqs, vars = eqs+e, vars+v
		return e, v
	}
	with := func(k known) map[string]known {
		inside := maps.Clone(around)
		inside[x.Name] = k
		return inside
	}
	binder := len(s.uses)
	switch x.Kind {
	case api.Var:
		if k, ok := around[x.Name]; ok {
			eqs, vars = eqs+k.eqs, vars+k.vars
			s.uses[k.binder]++
		}
	case api.Lam:
		s.uses = append(s.uses, 0)
		vars++
		in(0, with(known{binder: binder}))
	case api.Let:
		s.uses = append(s.uses, 0)
		e, v := in(0, around)
		in(1, with(known{binder, e, v}))
	case api.Rec:
		s.uses = append(s.uses, 0)
		eqs, vars = eqs+1, vars+1
		e, v := in(0, with(known{binder: binder}))
		in(1, with(known{binder, e + 1, v + 1}))
	default:
		eqs += map[int]int{api.If: 2, api.Ann: 1}[x.Kind]
		for i := range x.Parts {
			in(i, around)
		}
	}
	return eqs, vars
}

// secondly is how many equations and variables a right term has, and how many Vars mean each binder.
func secondly(x api.Term) (int, int, []int) {
	var s second
	eqs, vars := s.count(x, map[string]known{})
	return eqs, vars, s.uses
}

// hold holds what is told of a right term against what comes a second way.
func hold(t *testing.T, x api.Term) {
	t.Helper()
	eqs, vars, uses := secondly(x)
	if got := count.Uses(x); !slices.Equal(got, uses) {
		t.Fatalf("Uses(%s) = %v, want %v", pretty.Print(x), got, uses)
	}
	if len(scope.Free(x)) > 0 {
		wantErrors(t, pretty.Print(x), x, api.ErrScope)
		return
	}
	wantNumbers(t, pretty.Print(x), x, min(eqs, most), min(vars, most))
}

func wantNumbers(t *testing.T, what string, x api.Term, eqs, vars int) {
	t.Helper()
	if got, e := count.Eqs(x); got != eqs || e != api.OK {
		t.Fatalf("%s: Eqs: %d, %v, want %d", what, got, e, eqs)
	}
	if got, e := count.Vars(x); got != vars || e != api.OK {
		t.Fatalf("%s: Vars: %d, %v, want %d", what, got, e, vars)
	}
}

func wantErrors(t *testing.T, what string, x api.Term, want api.Errno) {
	t.Helper()
	if got, e := count.Eqs(x); got != 0 || e != want {
		t.Fatalf("%s: Eqs: %d, %v, want %v", what, got, e, want)
	}
	if got, e := count.Vars(x); got != 0 || e != want {
		t.Fatalf("%s: Vars: %d, %v, want %v", what, got, e, want)
	}
}

// smallTerms is right terms of up to so many levels, of two names.
func smallTerms(depth int) []api.Term {
	l := []api.Term{variable("x"), variable("y"), num(1)}
	if depth == 1 {
		return l
	}
	for _, a := range smallTerms(depth - 1) {
		l = append(l, named(api.Lam, "x", a), named(api.Lam, "y", a))
		for _, b := range smallTerms(depth - 1) {
			l = append(l, named(api.Let, "x", a, b), named(api.Rec, "x", a, b), node(api.App, a, b))
			if depth == 2 {
				l = append(l, named(api.Let, "y", a, b), named(api.Rec, "y", a, b), node(api.If, a, b, a), node(api.Tuple, b, a), ann(a))
			}
		}
	}
	return l
}

// chance gives right terms, the same ones whenever the tests run.
type chance struct{ *rand.Rand }

func begin(n uint64) chance { return chance{rand.New(rand.NewPCG(n, 18))} }

func (c chance) term(depth int) api.Term {
	name := string(rune('a' + c.IntN(4)))
	part := func() api.Term { return c.term(depth - 1) }
	n := c.IntN(16)
	switch {
	case depth == 0 && n < 12 || n < 2:
		return variable(name)
	case depth == 0 && n < 14 || n == 2:
		return num(c.IntN(1000))
	case depth == 0 || n == 3:
		return api.Term{Kind: api.Bool, N: c.IntN(2)}
	case n < 6:
		return named(api.Lam, name, part())
	case n < 8:
		return node(api.App, part(), part())
	case n < 10:
		return named(api.Let, name, part(), part())
	case n < 12:
		return named(api.Rec, name, part(), part())
	case n == 12:
		return node(api.If, part(), part(), part())
	case n < 15:
		l := []api.Term{part(), part()}
		for range c.IntN(3) * c.IntN(3) {
			l = append(l, c.term(0))
		}
		return node(api.Tuple, l...)
	}
	return ann(part())
}

// closed is a term in functions of what is free in it.
func closed(x api.Term) api.Term {
	for _, name := range scope.Free(x) {
		x = named(api.Lam, name, x)
	}
	return x
}

// P18.1

func TestNumbers(t *testing.T) {
	for text, want := range map[string]struct{ eqs, vars int }{
		"1":                                       {1, 1},
		"true":                                    {1, 1},
		"fun x -> x":                              {2, 3},
		"fun x -> fun y -> x":                     {3, 5},
		"fun f -> f 1":                            {4, 5},
		"(fun x -> x) 1":                          {4, 5},
		"(1, 2)":                                  {3, 3},
		"(1, 2, 3, 4, 5, 6, 7, 8)":                {9, 9},
		"if true then 1 else 2":                   {6, 4},
		"(1 : int)":                               {3, 2},
		"((1 : int) : int)":                       {5, 3},
		"let a = 1 in 2":                          {3, 3},
		"let a = 1 in a":                          {4, 4},
		"let a = (1, 2) in (a, a)":                {3 + 1 + 2*4 + 1, 3 + 1 + 2*4 + 1},
		"let i = fun x -> x in i i":               {10, 13},
		"let i = fun x -> x in (i 1, i true)":     {14, 17},
		"fun y -> let a = y in a":                 {5, 6},
		"let a = let b = 1 in b in (a, a)":        {4 + 1 + 2*5 + 1, 4 + 1 + 2*5 + 1},
		"let a = 1 in let b = a in b":             {1 + 1 + 1 + 2 + 3, 1 + 1 + 1 + 2 + 3},
		"let rec f = f in 1":                      {4, 4},
		"let rec f = f in f":                      {1 + 2 + 3, 1 + 2 + 3},
		"let rec f = 1 in f f":                    {1 + 2 + 1 + 3 + 3, 1 + 2 + 1 + 3 + 3},
		"let rec f = fun x -> f x in f":           {12, 14},
		"let rec f = let g = f in g in 1":         {1 + 1 + 4 + 1, 1 + 1 + 4 + 1},
		"let rec f = let g = f in (g, g) in f":    {2*(1+1+1+1+2*2) + 2, 2*(1+1+1+1+2*2) + 2},
		"let x = (1, 2) in let x = true in x":     {1 + 3 + 1 + 1 + 2, 1 + 3 + 1 + 1 + 2},
		"let x = (1, 2) in fun x -> x":            {1 + 3 + 2, 1 + 3 + 3},
		"let x = (1, 2) in let x = x in x":        {1 + 3 + 1 + 4 + 5, 1 + 3 + 1 + 4 + 5},
		"let f = (1, 2) in let rec f = f in 1":    {1 + 3 + 4, 1 + 3 + 4},
		"let f = 1 in let g = fun x -> f in g 1":  {1 + 1 + 1 + 3 + 1 + 4 + 1, 1 + 1 + 1 + 4 + 1 + 5 + 1},
		"let p = (1 : int) in if p then p else p": {1 + 3 + 3 + 3*4, 1 + 2 + 1 + 3*3},
	} {
		x := read(t, text)
		wantNumbers(t, text, x, want.eqs, want.vars)
		hold(t, x)
	}
}

func TestSmallTerms(t *testing.T) {
	closedOnes := 0
	for _, x := range smallTerms(3) {
		hold(t, x)
		if len(scope.Free(x)) > 0 {
			hold(t, closed(x))
		} else {
			closedOnes++
		}
	}
	if closedOnes < 1000 {
		t.Errorf("%d closed terms", closedOnes)
	}
}

func TestTermsByChance(t *testing.T) {
	by := begin(1)
	for range 20000 {
		x := by.term(1 + by.IntN(7))
		hold(t, x)
		hold(t, closed(x))
	}
}

func TestWrongTerms(t *testing.T) {
	for what, x := range wrongTerms() {
		wantErrors(t, what, x, api.ErrArg)
		if got := count.Uses(x); len(got) != 0 {
			t.Errorf("%s: Uses: %v", what, got)
		}
	}
}

func TestFreeNames(t *testing.T) {
	for _, text := range []string{
		"x", "f 1", "fun x -> y", "let x = x in x", "(fun x -> x, x)", "(let x = 1 in x, x)", "(let rec f = f in f) f",
		"let rec f = g in f", "let f = fun x -> f in f", "if true then 1 else x", "(x : int)", "(1, 2, 3, 4, 5, 6, 7, x)",
	} {
		wantErrors(t, text, read(t, text), api.ErrScope)
	}
	wantErrors(t, "behind many equations", node(api.Tuple, lets(0, 60, variable("x60")), variable("x")), api.ErrScope)
}

// lets is a term in Lets of x with the numbers from one on, up to another one: x0 is a number, each further one two of the one ahead of it.
func lets(from, to int, x api.Term) api.Term {
	for i := to; i >= from; i-- {
		first := num(1)
		if i > 0 {
			y := variable("x" + strconv.Itoa(i-1))
			first = node(api.Tuple, y, y)
		}
		x = named(api.Let, "x"+strconv.Itoa(i), first, x)
	}
	return x
}

// exactly is a term that has just as many equations, or variables, fill being a term around another one that has one more of them.
func exactly(t *testing.T, n int, fill func(x api.Term) api.Term) api.Term {
	t.Helper()
	const greatest = 36 // x36 keeps a little less than 2^38 of both
	kept := []int{1}
	left := n
	for i := range greatest + 1 {
		kept = append(kept, 2*kept[i]+3)
		left -= 1 + kept[i]
	}
	x := num(1)
	left--
	for i := greatest; i >= 0; i-- {
		for cost := 2 + kept[i]; left >= cost; left -= cost {
			x = node(api.App, variable("x"+strconv.Itoa(i)), x)
		}
	}
	if left < 0 {
		t.Fatalf("no term of as few as %d", n)
	}
	for range left {
		x = fill(x)
	}
	return lets(0, greatest, x)
}

func TestAsManyAsAreTold(t *testing.T) {
	function := func(x api.Term) api.Term { return named(api.Lam, "a", x) }
	for _, n := range []int{most / 2, most - 1000, most - 2, most - 1, most, most + 1, most + 2, most + 3, most + 1000, 2*most - 1, 2 * most, 5 * most} {
		x := exactly(t, n, function)
		if eqs, _, _ := secondly(x); eqs != n {
			t.Fatalf("%d equations, not %d", eqs, n)
		}
		hold(t, x)
		x = exactly(t, n, ann)
		if _, vars, _ := secondly(x); vars != n {
			t.Fatalf("%d variables, not %d", vars, n)
		}
		hold(t, x)
	}
}

// What is hit on the way stays the greatest number, whatever is behind it.
func TestFarMoreThanAreTold(t *testing.T) {
	for _, n := range []int{38, 39, 40, 60, 61, 62, 63, 64, 65, 100, 128, 1000, 20000} {
		last := variable("x" + strconv.Itoa(n))
		for what, x := range map[string]api.Term{
			"told":              lets(0, n, num(1)),
			"meant":             lets(0, n, last),
			"meant many times":  lets(0, n, node(api.Tuple, slices.Repeat([]api.Term{last}, 8)...)),
			"in an If, thrice":  lets(0, n, node(api.If, last, last, last)),
			"within a Rec":      named(api.Rec, "f", lets(0, n, last), node(api.App, variable("f"), variable("f"))),
			"kept once more":    named(api.Let, "f", lets(0, n, last), variable("f")),
			"in functions":      named(api.Lam, "a", named(api.Lam, "b", lets(0, n, last))),
			"annotated further": ann(ann(lets(0, n, last))),
		} {
			wantNumbers(t, what+", of "+strconv.Itoa(n), x, most, most)
		}
	}
}

func TestUses(t *testing.T) {
	for text, want := range map[string][]int{
		"1":                             nil,
		"(1, true)":                     nil,
		"fun x -> x":                    {1},
		"fun x -> 1":                    {0},
		"fun x -> (x, x, x)":            {3},
		"fun x -> fun y -> x":           {1, 0},
		"fun x -> fun y -> (x, y, x)":   {2, 1},
		"let x = 1 in 2":                {0},
		"let x = 1 in (x, x)":           {2},
		"let rec f = f f in f":          {3},
		"let rec f = fun x -> f x in f": {2, 1},
		"let i = fun x -> x in i i":     {2, 1},
		"let a = let b = 1 in (b, b, b) in (a, fun c -> a)":                      {2, 3, 0},
		"(fun a -> 1, fun b -> b, fun c -> (c, c))":                              {0, 1, 2},
		"if (fun a -> a : int) then let b = 1 in b else let rec c = c in (c, c)": {1, 1, 3},
		"let a = fun b -> let c = b in (c, c) in let rec d = (a, d) in (a, a)":   {3, 1, 2, 1},
		// names that two binders have
		"fun x -> fun x -> x":              {0, 1},
		"fun x -> (fun x -> (x, x), x)":    {1, 2},
		"fun x -> let x = x in x":          {1, 1},
		"fun x -> let x = (x, x) in x":     {2, 1},
		"fun x -> let rec x = x in x":      {0, 2},
		"let x = 1 in let x = x in (x, x)": {1, 2},
		"let rec f = fun f -> f in f":      {1, 1},
		"let rec f = let f = f in f in f":  {2, 1},
		"let x = fun x -> x in x":          {1, 1},
		// terms that aren't closed
		"x":                             nil,
		"x y x":                         nil,
		"fun x -> y":                    {0},
		"x (fun x -> x) x":              {1},
		"(fun x -> x, x)":               {1},
		"let x = x in x":                {1},
		"let x = (x, x) in (x, y)":      {1},
		"let rec x = y in (x, y, y)":    {1},
		"y (fun x -> z (fun y -> x y))": {1, 1},
		"(a, b, fun c -> (a, b, fun b -> (a, b, c, d)))": {1, 1},
	} {
		x := read(t, text)
		if got := count.Uses(x); !slices.Equal(got, want) {
			t.Errorf("Uses(%q) = %v, want %v", text, got, want)
		}
		hold(t, x)
	}
}

// P18.2

// bound is the steps of a check, by numbers without an end.
func bound(bytes, eqs int) int {
	if bytes < 0 || bytes > 1<<30 || eqs < 0 || eqs > 1<<30 {
		return 0
	}
	n := big.NewInt(1000)
	for _, times := range []int{bytes, eqs, eqs} {
		n.Mul(n, big.NewInt(int64(times)+1))
	}
	greatest := big.NewInt(1 << 62)
	if n.Cmp(greatest) > 0 {
		n = greatest
	}
	return int(n.Int64())
}

func TestBound(t *testing.T) {
	for _, c := range [][3]int{
		{0, 0, 1000},
		{1, 0, 2000},
		{0, 1, 4000},
		{1, 1, 8000},
		{9, 4, 250_000},
		{4, 9, 500_000},
		{999, 4096, 1000 * 1000 * 4097 * 4097},
		{1 << 30, 0, 1000 * (1<<30 + 1)},
		{1 << 30, 1, 4000 * (1<<30 + 1)},
		{1<<30 - 1, 2047, 1000 << 52},
		{0, 1 << 26, 1000 * (1<<26 + 1) * (1<<26 + 1)},
		{0, 1 << 30, 1 << 62},
		{1 << 30, 1 << 30, 1 << 62},
		{1 << 30, 1 << 12, 1 << 62},
		{1 << 20, 1 << 30, 1 << 62},
		{-1, 0, 0},
		{0, -1, 0},
		{-1, -1, 0},
		{1<<30 + 1, 0, 0},
		{0, 1<<30 + 1, 0},
		{1<<30 + 1, 1 << 30, 0},
		{1 << 30, 1<<30 + 1, 0},
		{-1, 1 << 30, 0},
		{1 << 30, -1, 0},
		{math.MaxInt, math.MaxInt, 0},
		{math.MinInt, math.MinInt, 0},
		{math.MaxInt, 0, 0},
		{0, math.MinInt, 0},
	} {
		if got := count.Bound(c[0], c[1]); got != c[2] {
			t.Errorf("Bound(%d, %d) = %d, want %d", c[0], c[1], got, c[2])
		}
	}
}

func TestBoundOfMany(t *testing.T) {
	wantBound := func(bytes, eqs int) {
		t.Helper()
		if got, want := count.Bound(bytes, eqs), bound(bytes, eqs); got != want {
			t.Fatalf("Bound(%d, %d) = %d, want %d", bytes, eqs, got, want)
		}
	}
	l := []int{math.MinInt, -1 << 30, -1000, -2, 1 << 31, 1 << 32, 1 << 62, math.MaxInt}
	for shift := range 31 {
		l = append(l, 1<<shift-2, 1<<shift-1, 1<<shift, 1<<shift+1)
	}
	for _, a := range l {
		for _, b := range l {
			wantBound(a, b)
		}
	}
	// where it comes to 2^62
	for eqs := 2000; eqs < 1<<26; eqs += eqs / 3 {
		n := eqs + 1
		bytes := 1 << 62 / 1000 / n / n
		for more := -3; more <= 3; more++ {
			wantBound(bytes+more, eqs)
		}
	}
	by := begin(2)
	for range 100000 {
		wantBound(by.IntN(1<<by.IntN(31)+1), by.IntN(1<<by.IntN(31)+1))
	}
}

// P18.3

// wantAsToldOf wants as many equations and variables as the equations themselves tell.
func wantAsToldOf(t *testing.T, x api.Term) bool {
	t.Helper()
	n, e := count.Eqs(x)
	vars, f := count.Vars(x)
	l, g := eqs.Of(x, math.MaxInt)
	if e != api.OK || f != api.OK {
		t.Fatalf("%s: %v, %v", pretty.Print(x), e, f)
	}
	if n > api.MaxEqs {
		if g != api.ErrMany {
			t.Fatalf("%s: %d equations, %v", pretty.Print(x), n, g)
		}
		return false
	}
	if g != api.OK || len(l) != n || eqs.Vars(l...) != vars {
		t.Fatalf("%s: %d equations, %v, of %d variables; want %d, %d", pretty.Print(x), len(l), g, eqs.Vars(l...), n, vars)
	}
	return true
}

func TestAsTheEquationsTell(t *testing.T) {
	for _, x := range smallTerms(3) {
		wantAsToldOf(t, closed(x))
	}
	by := begin(3)
	few, many := 0, 0
	for range 10000 {
		if wantAsToldOf(t, closed(by.term(2+by.IntN(9)))) {
			few++
		} else {
			many++
		}
	}
	if few < 1000 || many < 100 {
		t.Errorf("%d terms of few equations, %d of many", few, many)
	}
	for n := range 12 {
		wantAsToldOf(t, lets(0, n, variable("x"+strconv.Itoa(n))))
	}
}

// Rule 4

func TestWhatIsHandedInStays(t *testing.T) {
	x := read(t, "let a = (fun x -> (x, x) : (int * int) -> int) in let rec f = fun y -> (a, b) in (f, f c)")
	before := term.Copy(x)
	uses := count.Uses(x)
	count.Eqs(x)
	count.Vars(x)
	whole := closed(x)
	beforeWhole := term.Copy(whole)
	count.Eqs(whole)
	count.Vars(whole)
	count.Uses(whole)
	if !term.Equal(x, before) || !term.Equal(whole, beforeWhole) {
		t.Error("what is handed in is changed")
	}
	want := slices.Clone(uses)
	for i := range uses {
		uses[i] = 77
	}
	_ = append(uses, 78)
	if got := count.Uses(x); !slices.Equal(got, want) {
		t.Error("Uses answers one memory twice")
	}
}

// Not by N, but by its name a Var means a binder.
func TestItGoesByNames(t *testing.T) {
	x := named(api.Let, "a", node(api.Tuple, num(1), num(2)), named(api.Lam, "b", api.Term{Kind: api.Var, Name: "a", N: 0}))
	for _, n := range []int{0, 1, 2, math.MaxInt} {
		x.Parts[1].Parts[0].N = n
		wantNumbers(t, "N "+strconv.Itoa(n), x, 1+3+1+4, 1+3+2+4)
		if got := count.Uses(x); !slices.Equal(got, []int{1, 0}) {
			t.Errorf("N %d: Uses: %v", n, got)
		}
	}
}

// deep ones

func TestDeepTerms(t *testing.T) {
	defer debug.SetMaxStack(debug.SetMaxStack(4 << 20))
	one := variable("x")
	for what, c := range map[string]struct {
		around                  func(x api.Term) api.Term
		eqs, vars, binders, use int // of each level; how many Vars of it mean x
	}{
		"functions":      {func(x api.Term) api.Term { return named(api.Lam, "y", x) }, 1, 2, 1, 0},
		"let":            {func(x api.Term) api.Term { return named(api.Let, "y", one, x) }, 2, 2, 1, 1},
		"within let":     {func(x api.Term) api.Term { return named(api.Let, "y", x, one) }, 2, 2, 1, 1},
		"let rec":        {func(x api.Term) api.Term { return named(api.Rec, "y", one, x) }, 3, 3, 1, 1},
		"within let rec": {func(x api.Term) api.Term { return named(api.Rec, "y", x, one) }, 3, 3, 1, 1},
		"applications":   {func(x api.Term) api.Term { return node(api.App, x, one) }, 2, 2, 0, 1},
		"to the right":   {func(x api.Term) api.Term { return node(api.App, one, x) }, 2, 2, 0, 1},
		"if":             {func(x api.Term) api.Term { return node(api.If, one, one, x) }, 5, 3, 0, 2},
		"tuples":         {func(x api.Term) api.Term { return node(api.Tuple, one, x, one) }, 3, 3, 0, 2},
		"annotated":      {ann, 2, 1, 0, 0},
	} {
		x := one
		for range deep {
			x = c.around(x)
		}
		wantErrors(t, what, x, api.ErrScope)
		wantErrors(t, what, node(api.App, x, api.Term{}), api.ErrArg)
		x = named(api.Lam, "x", x)
		wantNumbers(t, what, x, 2+deep*c.eqs, 3+deep*c.vars)
		uses := count.Uses(x)
		if len(uses) != 1+deep*c.binders || uses[0] != 1+deep*c.use {
			t.Errorf("%s: Uses of %d binders, %d of x", what, len(uses), uses[0])
		}
	}
}
