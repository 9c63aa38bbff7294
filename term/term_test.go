package term_test

import (
	"math"
	"runtime/debug"
	"slices"
	"strings"
	"testing"

	"pangram/api"
	"pangram/term"
)

const deep = 1 << 17 // levels: calls within calls as deep would take more than the stack that TestDeepTerms gives

func typeOf(kind int, parts ...api.Type) api.Type { return api.Type{Kind: kind, Parts: parts} }

func number() api.Type { return typeOf(api.TInt) }

func arrow(a, b api.Type) api.Type { return typeOf(api.TArrow, a, b) }

func variable(name string) api.Term { return api.Term{Kind: api.Var, Name: name} }

func num(n int) api.Term { return api.Term{Kind: api.Int, N: n} }

func truth(n int) api.Term { return api.Term{Kind: api.Bool, N: n} }

func node(kind int, parts ...api.Term) api.Term { return api.Term{Kind: kind, Parts: parts} }

func named(kind int, name string, parts ...api.Term) api.Term {
	return api.Term{Kind: kind, Name: name, Parts: parts}
}

func ann(t api.Type, parts ...api.Term) api.Term {
	return api.Term{Kind: api.Ann, Type: t, Parts: parts}
}

func at(t api.Term, from, to int) api.Term {
	t.At = api.Span{From: from, To: to}
	return t
}

func many(n int) []api.Term { return slices.Repeat([]api.Term{num(1)}, n) }

// with is a term with another field.
func with(t api.Term, change func(t *api.Term)) api.Term {
	change(&t)
	return t
}

// rightTerms is terms that are right, each kind among them.
func rightTerms() map[string]api.Term {
	x, one := variable("x"), num(1)
	return map[string]api.Term{
		"a variable":              x,
		"a long name":             variable(strings.Repeat("a", 20)),
		"a name of all signs":     variable("a_0z9"),
		"a name that begins rec":  variable("recs"),
		"a resolved variable":     {Kind: api.Var, Name: "x", N: 3},
		"one far away":            {Kind: api.Var, Name: "x", N: math.MaxInt},
		"the least number":        num(0),
		"the greatest number":     num(999999999),
		"false":                   truth(0),
		"true":                    truth(1),
		"a function":              named(api.Lam, "x", x),
		"an application":          node(api.App, x, one),
		"let":                     named(api.Let, "x", one, x),
		"let rec":                 named(api.Rec, "f", variable("f"), one),
		"if":                      node(api.If, truth(1), one, x),
		"a pair":                  node(api.Tuple, one, x),
		"a tuple of eight":        node(api.Tuple, many(8)...),
		"an annotation":           ann(number(), one),
		"one with an arrow":       ann(arrow(number(), typeOf(api.TTuple, number(), typeOf(api.TBool))), x),
		"any spans":               at(node(api.App, at(x, 9, 3), at(one, -4, math.MaxInt)), 7, -2),
		"empty lists":             {Kind: api.Int, Parts: []api.Term{}, Type: api.Type{Parts: []api.Type{}}},
		"parts within parts":      named(api.Let, "f", named(api.Lam, "x", node(api.If, x, one, node(api.Tuple, x, one))), node(api.App, variable("f"), ann(number(), one))),
		"the same name once more": named(api.Lam, "x", named(api.Lam, "x", x)),
	}
}

// wrongTerms is terms that aren't right, by what is wrong with them.
func wrongTerms() map[string]api.Term {
	l := map[string]api.Term{
		"the zero one":            {},
		"a kind below 1":          {Kind: -1},
		"a kind above 10":         {Kind: 11},
		"a kind above, named":     named(11, "x", num(1)),
		"a variable below 0":      {Kind: api.Var, Name: "x", N: -1},
		"a variable far below":    {Kind: api.Var, Name: "x", N: math.MinInt},
		"a number below 0":        num(-1),
		"a number far below":      num(math.MinInt),
		"a number of 10 digits":   num(1000000000),
		"a number far above":      num(math.MaxInt),
		"a truth below 0":         truth(-1),
		"a truth above 1":         truth(2),
		"a type of no kind":       ann(api.Type{}, num(1)),
		"a wrong type":            ann(arrow(number(), typeOf(api.TTuple, number())), num(1)),
		"a type that's a number":  ann(api.Type{Kind: api.TInt, N: 1}, num(1)),
		"a variable as type":      ann(typeOf(api.TVar), num(1)),
		"a variable in a type":    ann(arrow(number(), arrow(typeOf(api.TVar), number())), num(1)),
		"a variable above, there": ann(arrow(number(), api.Type{Kind: api.TVar, N: 1 << 30}), num(1)),
	}
	for _, name := range []string{"", "let", "fun", "rec", "in", "if", "then", "else", "true", "false", "int", "bool",
		"X", "xY", "_x", "0x", "1", "x y", " x", "x ", "x'", "é", "x\x00", "(", "->", strings.Repeat("a", 21)} {
		l["the variable "+name] = variable(name)
		l["the function of "+name] = named(api.Lam, name, num(1))
		l["let "+name] = named(api.Let, name, num(1), num(1))
		l["let rec "+name] = named(api.Rec, name, num(1), num(1))
	}
	parts := map[int][]int{api.Var: {0}, api.Int: {0}, api.Bool: {0}, api.Lam: {1}, api.App: {2}, api.Let: {2}, api.Rec: {2},
		api.If: {3}, api.Tuple: {2, 3, 4, 5, 6, 7, 8}, api.Ann: {1}}
	for what, t := range rightTerms() {
		for n := range 12 {
			if !slices.Contains(parts[t.Kind], n) {
				l[what+" of other parts "+string(rune('0'+n))] = with(t, func(t *api.Term) { t.Parts = many(n) })
			}
		}
		if t.Kind != api.Ann {
			l[what+" with a type"] = with(t, func(t *api.Term) { t.Type = number() })
			l[what+" with a type's number"] = with(t, func(t *api.Term) { t.Type.N = 1 })
			l[what+" with a type's part"] = with(t, func(t *api.Term) { t.Type.Parts = []api.Type{{}} })
		}
		if t.Kind != api.Var && t.Kind != api.Int && t.Kind != api.Bool {
			l[what+" with a number"] = with(t, func(t *api.Term) { t.N = 1 })
			l[what+" with a number below 0"] = with(t, func(t *api.Term) { t.N = -1 })
		}
		switch t.Kind {
		case api.Var, api.Lam, api.Let, api.Rec:
		default:
			l[what+" with a name"] = with(t, func(t *api.Term) { t.Name = "x" })
		}
		for i := range t.Parts {
			l[what+" with a wrong part "+string(rune('0'+i))] = with(t, func(t *api.Term) {
				t.Parts = slices.Clone(t.Parts)
				t.Parts[i] = node(api.App, num(1), named(api.Lam, "in", num(1)))
			})
		}
	}
	return l
}

// smallTerms is terms of up to so many levels, wrong ones, too, of up to three parts each.
func smallTerms(depth int) []api.Term {
	alone := []api.Term{at(variable("x"), 1, 2), {Kind: api.Var, Name: "x", N: 1}, num(7), {}}
	if depth == 1 {
		return alone
	}
	l, parts := slices.Clone(alone), smallTerms(depth-1)
	for _, a := range parts {
		l = append(l, at(named(api.Lam, "x", a), 0, 5), ann(number(), a))
		for _, b := range parts {
			l = append(l, node(api.App, a, b), at(node(api.Var, b, num(3), a), 3, 9))
		}
	}
	return l
}

// walk tells terms in order, and how deep each one stands.
func walk(t api.Term, depth int, visit func(t api.Term, depth int)) {
	visit(t, depth)
	for _, p := range t.Parts {
		walk(p, depth+1, visit)
	}
}

// terms is a term's terms, in order.
func terms(t api.Term) []api.Term {
	var l []api.Term
	walk(t, 0, func(t api.Term, _ int) { l = append(l, t) })
	return l
}

func writeType(b *strings.Builder, t api.Type) {
	b.WriteString(string(rune(t.Kind+1000)) + string(rune(t.N+2000)) + "<")
	for _, p := range t.Parts {
		writeType(b, p)
	}
	b.WriteString(">")
}

// told writes all fields of a term; up to spans, if that is asked for.
func told(t api.Term, spans bool) string {
	var b strings.Builder
	walk(t, 0, func(t api.Term, depth int) {
		b.WriteString(strings.Repeat("[", depth))
		b.WriteString(string(rune(t.Kind+1000)) + t.Name + ".")
		writeType(&b, t.Type)
		if spans {
			b.WriteString(string(rune(t.At.From+3000)) + string(rune(t.At.To+3000)))
		}
		if spans || t.Kind != api.Var {
			b.WriteString(string(rune(t.N + 2000)))
		}
	})
	return b.String()
}

func wantTerm(t *testing.T, what string, got, want api.Term) {
	t.Helper()
	if told(got, true) != told(want, true) {
		t.Errorf("%s: %v, want %v", what, got, want)
	}
}

// scribble changes whatever a term's memory holds, its spare room too.
func scribble(t *api.Term) {
	for i := range t.Parts {
		scribble(&t.Parts[i])
		t.Parts[i] = api.Term{Kind: 77, Name: "changed", Parts: []api.Term{{}}}
	}
	scribbleType(&t.Type)
	_ = append(t.Parts, api.Term{Kind: 78})
	*t = api.Term{Kind: 79}
}

func scribbleType(t *api.Type) {
	for i := range t.Parts {
		scribbleType(&t.Parts[i])
		t.Parts[i] = api.Type{Kind: 77}
	}
	_ = append(t.Parts, api.Type{Kind: 78})
}

// sample has each kind, and spans of its own everywhere.
func sample() api.Term {
	t := named(api.Let, "f",
		named(api.Lam, "x", node(api.If, variable("x"), node(api.Tuple, num(1), variable("y"), truth(1)), num(2))),
		named(api.Rec, "g", node(api.App, variable("f"), ann(arrow(number(), typeOf(api.TTuple, number(), typeOf(api.TBool))), num(3))), variable("g")))
	n := 0
	var number func(t *api.Term)
	number = func(t *api.Term) {
		n++
		t.At = api.Span{From: n, To: 100 - n}
		for i := range t.Parts {
			number(&t.Parts[i])
		}
	}
	number(&t)
	return t
}

// P5.1

func TestRight(t *testing.T) {
	for what, x := range rightTerms() {
		if !term.Right(x) || !term.Right(node(api.If, num(1), named(api.Lam, "x", x), x)) {
			t.Errorf("%s isn't right: %v", what, x)
		}
	}
	for what, x := range wrongTerms() {
		if term.Right(x) {
			t.Errorf("%s is right: %v", what, x)
		}
		if term.Right(node(api.If, num(1), num(1), named(api.Lam, "x", x))) || term.Right(node(api.App, x, num(1))) {
			t.Errorf("%s is right as a part", what)
		}
	}
}

func TestSizeAndDepth(t *testing.T) {
	for _, c := range []struct {
		t           api.Term
		size, depth int
	}{
		{api.Term{}, 1, 1}, {num(1), 1, 1}, {named(api.Lam, "x", num(1)), 2, 2}, {node(api.App, num(1), num(1)), 3, 2},
		{node(api.App, node(api.App, num(1), num(1)), num(1)), 5, 3}, {node(api.App, num(1), node(api.App, num(1), num(1))), 5, 3},
		{sample(), 15, 5}, {node(api.Tuple, many(8)...), 9, 2}, {node(99, many(20)...), 21, 2}, {node(api.Var, api.Term{}), 2, 2},
		{ann(arrow(number(), arrow(number(), number())), num(1)), 2, 2},
	} {
		if size, depth := term.Size(c.t), term.Depth(c.t); size != c.size || depth != c.depth {
			t.Errorf("%v: size %d, depth %d, want %d, %d", c.t, size, depth, c.size, c.depth)
		}
	}
}

// changes is what may be changed in one term, and whether it is the same up to spans then.
func changes(t api.Term) []struct {
	t    api.Term
	same bool
} {
	type changed = struct {
		t    api.Term
		same bool
	}
	return []changed{
		{with(t, func(t *api.Term) { t.Kind++ }), false},
		{with(t, func(t *api.Term) { t.Name += "x" }), false},
		{with(t, func(t *api.Term) { t.N++ }), t.Kind == api.Var},
		{with(t, func(t *api.Term) { t.At.From++ }), true},
		{with(t, func(t *api.Term) { t.At.To-- }), true},
		{with(t, func(t *api.Term) { t.Type.Kind++ }), false},
		{with(t, func(t *api.Term) { t.Type.N++ }), false},
		{with(t, func(t *api.Term) { t.Type.Parts = append(slices.Clip(t.Type.Parts), api.Type{}) }), false},
		{with(t, func(t *api.Term) { t.Parts = append(slices.Clip(t.Parts), api.Term{}) }), false},
		{with(t, func(t *api.Term) { t.Parts = append([]api.Term{{}}, t.Parts...) }), false},
		{with(t, func(t *api.Term) {
			if t.Type.Kind == api.TArrow {
				t.Type = arrow(t.Type.Parts[0], typeOf(api.TTuple, number(), number()))
				return
			}
			t.Type = number()
		}), false},
	}
}

func TestEachFieldCounts(t *testing.T) {
	base := sample()
	if !term.Equal(base, sample()) || !term.Same(base, sample()) {
		t.Error("the same ones aren't")
	}
	for i, x := range terms(base) {
		for j, c := range changes(x) {
			other, left := sample(), i
			var change func(t *api.Term)
			change = func(t *api.Term) {
				if left == 0 {
					*t = c.t
				}
				left--
				for k := 0; k < len(t.Parts) && left >= 0; k++ {
					change(&t.Parts[k])
				}
			}
			change(&other)
			if term.Equal(base, other) || term.Equal(other, base) {
				t.Errorf("term %d, change %d: equal", i, j)
			}
			if term.Same(base, other) != c.same || term.Same(other, base) != c.same {
				t.Errorf("term %d, change %d: same: %v", i, j, !c.same)
			}
		}
	}
}

func TestSameUpToSpans(t *testing.T) {
	for _, c := range []struct {
		a, b        api.Term
		same, equal bool
	}{
		{api.Term{}, api.Term{}, true, true},
		{at(num(1), 2, 3), num(1), true, false},
		{variable("x"), api.Term{Kind: api.Var, Name: "x", N: 4}, true, false},
		{variable("x"), variable("y"), false, false},
		{num(1), num(2), false, false},
		{truth(0), truth(1), false, false},
		{named(api.Lam, "x", variable("x")), named(api.Lam, "y", variable("y")), false, false},
		{named(api.Let, "x", num(1), num(2)), named(api.Rec, "x", num(1), num(2)), false, false},
		{api.Term{Kind: api.Lam, N: 1}, api.Term{Kind: api.Lam, N: 2}, false, false},
		{node(api.App, num(1), num(2)), node(api.App, num(2), num(1)), false, false},
		{node(api.Tuple, num(1), num(1)), node(api.Tuple, many(3)...), false, false},
		{node(api.Tuple, node(api.Tuple, num(1)), num(1)), node(api.Tuple, node(api.Tuple), num(1), num(1)), false, false},
		{ann(number(), num(1)), ann(typeOf(api.TBool), num(1)), false, false},
		{ann(arrow(number(), number()), num(1)), ann(arrow(number(), number()), num(1)), true, true},
		{api.Term{Parts: []api.Term{}, Type: api.Type{Parts: []api.Type{}}}, api.Term{}, true, true},
	} {
		if term.Same(c.a, c.b) != c.same || term.Same(c.b, c.a) != c.same || term.Equal(c.a, c.b) != c.equal || term.Equal(c.b, c.a) != c.equal {
			t.Errorf("%v and %v: same %v, equal %v", c.a, c.b, term.Same(c.a, c.b), term.Equal(c.a, c.b))
		}
	}
}

func TestCopy(t *testing.T) {
	for what, x := range rightTerms() {
		wantTerm(t, "the copy of "+what, term.Copy(x), x)
	}
	for what, x := range wrongTerms() {
		wantTerm(t, "the copy of "+what, term.Copy(x), x)
	}
	original := sample()
	one, other := term.Copy(original), term.Copy(original)
	scribble(&one)
	wantTerm(t, "what was copied", original, sample())
	wantTerm(t, "another copy", other, sample())
	scribble(&original)
	wantTerm(t, "the copy of what is changed", other, sample())
}

func TestCopiesHaveRoomOfTheirOwn(t *testing.T) {
	room := append(make([]api.Term, 0, 9), num(1), num(2))
	typeRoom := append(make([]api.Type, 0, 9), number(), number())
	x := term.Copy(api.Term{Kind: api.Ann, Type: api.Type{Kind: api.TArrow, Parts: typeRoom}, Parts: room})
	_ = append(x.Parts, num(3))
	_ = append(x.Type.Parts, number())
	if room[:3][2].Kind != 0 || typeRoom[:3][2].Kind != 0 {
		t.Error("a copy has its original's spare room")
	}
}

// P5.2

func TestNth(t *testing.T) {
	x := sample()
	for i, want := range terms(x) {
		got, ok := term.Nth(x, i)
		if !ok {
			t.Errorf("no term %d", i)
		}
		wantTerm(t, "Nth", got, want)
		scribble(&got)
		wantTerm(t, "what Nth is asked of", x, sample())
	}
	for _, i := range []int{-1, -2, 15, 16, 1000, math.MinInt, math.MaxInt} {
		if got, ok := term.Nth(x, i); ok || !term.Equal(got, api.Term{}) {
			t.Errorf("Nth(%d) = %v, %v", i, got, ok)
		}
	}
	if got, ok := term.Nth(api.Term{}, 0); !ok || !term.Equal(got, api.Term{}) {
		t.Error("the zero term has itself", got, ok)
	}
	if got, ok := term.Nth(api.Term{}, 1); ok || !term.Equal(got, api.Term{}) {
		t.Error("the zero term has no more", got, ok)
	}
	f := node(api.App, at(variable("f"), 0, 1), at(variable("x"), 2, 3))
	for i, name := range []string{"", "f", "x"} {
		if got, ok := term.Nth(f, i); !ok || got.Name != name {
			t.Errorf("f x has as %d: %v", i, got)
		}
	}
}

func TestAll(t *testing.T) {
	x := sample()
	want, n := terms(x), 0
	for i, got := range term.All(x) {
		if i != n {
			t.Fatalf("the number %d is told as %d", n, i)
		}
		wantTerm(t, "All", got, want[i])
		n++
	}
	if n != len(want) {
		t.Errorf("All tells %d, want %d", n, len(want))
	}
	for i, got := range term.All(api.Term{}) {
		if i != 0 || !term.Equal(got, api.Term{}) {
			t.Error("All of the zero term", i, got)
		}
	}
}

func TestAllIsLeft(t *testing.T) {
	x := sample()
	all := term.All(x)
	for most := range 17 {
		told := 0
		for i := range all {
			if i != told {
				t.Fatalf("the number %d is told as %d", told, i)
			}
			told++
			if told > most {
				break
			}
		}
		if want := min(most+1, 15); told != want {
			t.Errorf("All, left after %d, tells %d", want, told)
		}
	}
	calls := 0
	all(func(int, api.Term) bool { calls++; return false })
	if calls != 1 {
		t.Errorf("All goes on, %d times, when it is left", calls)
	}
}

func TestWhatAllGivesIsOnesOwn(t *testing.T) {
	x := sample()
	want := terms(x)
	all := term.All(x)
	var kept []api.Term
	for i, got := range all {
		wantTerm(t, "what is told behind changed ones", got, want[i])
		kept = append(kept, term.Copy(got))
		scribble(&got)
	}
	wantTerm(t, "what All is asked of", x, sample())
	var told []api.Term
	for _, got := range all {
		told = append(told, got)
	}
	if len(told) != 15 || len(kept) != 15 {
		t.Errorf("All tells %d, and %d", len(kept), len(told))
	}
	for i := range told {
		wantTerm(t, "what All tells once more", told[i], kept[i])
		scribble(&told[i])
	}
	again := term.All(x)
	scribble(&x)
	for i, got := range again {
		wantTerm(t, "what All tells of what is changed behind it", got, kept[i])
	}
}

func TestSpans(t *testing.T) {
	var want []api.Span
	for i := range 15 {
		want = append(want, api.Span{From: i + 1, To: 99 - i})
	}
	if got := term.Spans(sample()); !slices.Equal(got, want) {
		t.Errorf("Spans: %v", got)
	}
	if got := term.Spans(api.Term{}); !slices.Equal(got, []api.Span{{}}) {
		t.Errorf("Spans of the zero term: %v", got)
	}
	if got := term.Spans(at(node(99, at(num(1), 9, -3)), math.MinInt, 0)); !slices.Equal(got, []api.Span{{From: math.MinInt}, {From: 9, To: -3}}) {
		t.Errorf("Spans of any: %v", got)
	}
}

func TestNested(t *testing.T) {
	row := func(spans ...int) api.Term {
		var parts []api.Term
		for i := 0; i < len(spans); i += 2 {
			parts = append(parts, at(num(1), spans[i], spans[i+1]))
		}
		return at(node(api.Tuple, parts...), 10, 20)
	}
	for _, c := range []struct {
		t    api.Term
		want bool
	}{
		{api.Term{}, true}, {at(num(1), 9, 3), true}, {at(num(1), -5, -4), true},
		{row(10, 20), true}, {row(9, 20), false}, {row(10, 21), false}, {row(11, 19), true}, {row(9, 21), false},
		{row(15, 15), true}, {row(10, 10), true}, {row(20, 20), true}, {row(21, 21), false}, {row(9, 9), false}, {row(0, 0), false},
		{row(10, 12, 12, 20), true}, {row(10, 12, 11, 20), false}, {row(10, 12, 13, 20), true}, {row(13, 20, 10, 12), false},
		{row(10, 12, 12, 21), false}, {row(10, 15, 15, 17, 16, 20), false}, {row(10, 15, 15, 17, 17, 20), true},
		{row(12, 14, 12, 14), false}, {row(14, 14, 14, 14), true},
		// spans that end ahead of where they begin
		{row(15, 12), true}, {row(15, 12, 12, 13), true}, {row(15, 12, 11, 13), false}, {row(15, 2, 3, 13), false}, {row(25, 12), true},
		{row(15, 2, 10, 13), true}, {at(node(api.Tuple, at(num(1), 20, 10)), 20, 10), true}, {at(node(api.Tuple, at(num(1), 20, 11)), 20, 10), false},
		// further inside
		{row(10, 20, 20, 20), true},
		{at(node(api.App, row(11, 20), at(num(1), 20, 25)), 10, 25), true},
		{at(node(api.App, row(11, 21), at(num(1), 21, 25)), 10, 25), false},
		{at(node(api.App, at(num(1), 0, 10), row(9, 12)), 0, 20), false},
		{at(node(api.App, at(num(1), 0, 10), row(10, 12)), 0, 20), true},
		{at(node(api.App, at(num(1), 0, 11), row(11, 12)), 0, 20), false},
		{at(node(api.Lam, row(10, 12)), 10, 19), false},
		{at(node(api.Lam, row(10, 12)), 11, 20), false},
		{at(node(api.Lam, at(num(1), math.MinInt, math.MaxInt)), math.MinInt, math.MaxInt), true},
		{at(node(api.Lam, at(num(1), math.MinInt, 0)), math.MinInt+1, math.MaxInt), false},
	} {
		if got := term.Nested(c.t); got != c.want {
			t.Errorf("Nested(%v) = %v", c.t, got)
		}
	}
	if term.Nested(node(api.App, at(num(1), 0, 1), at(num(1), 2, 3))) {
		t.Error("parts lie in the zero span")
	}
}

func TestApply(t *testing.T) {
	f, x, y := at(variable("f"), 0, 1), at(node(api.Tuple, num(1), num(2)), 2, 8), num(3)
	wantTerm(t, "Apply of none", term.Apply(), api.Term{})
	wantTerm(t, "Apply of an empty list", term.Apply([]api.Term{}...), api.Term{})
	wantTerm(t, "Apply of one", term.Apply(x), x)
	wantTerm(t, "Apply of two", term.Apply(f, x), node(api.App, f, x))
	wantTerm(t, "Apply of three", term.Apply(f, x, y), node(api.App, node(api.App, f, x), y))
	wantTerm(t, "Apply of four", term.Apply(f, x, y, f), node(api.App, node(api.App, node(api.App, f, x), y), f))
	wantTerm(t, "Apply of applications", term.Apply(node(api.App, f, y), node(api.App, y, y)), node(api.App, node(api.App, f, y), node(api.App, y, y)))
	wantTerm(t, "Apply of any", term.Apply(api.Term{}, api.Term{Kind: -4}), node(api.App, api.Term{}, api.Term{Kind: -4}))
}

func TestWhatIsAppliedStays(t *testing.T) {
	l := append(make([]api.Term, 0, 5), sample(), node(api.Tuple, num(1), num(2)), sample())
	for n := 1; n <= 3; n++ {
		applied := term.Apply(l[:n]...)
		scribble(&applied)
		wantTerm(t, "the first one", l[0], sample())
		wantTerm(t, "the second one", l[1], node(api.Tuple, num(1), num(2)))
		wantTerm(t, "the third one", l[2], sample())
	}
	twice := term.Apply(l[1], l[1])
	scribble(&twice.Parts[0])
	wantTerm(t, "the other one of the same", twice.Parts[1], node(api.Tuple, num(1), num(2)))
}

// P5.3, and P5.1, P5.2 by a second way

func TestSmallTerms(t *testing.T) {
	for _, x := range smallTerms(3) {
		l, depth := terms(x), 0
		walk(x, 1, func(_ api.Term, d int) { depth = max(depth, d) })
		if term.Size(x) != len(l) || term.Depth(x) != depth {
			t.Fatalf("%v: size %d, depth %d", x, term.Size(x), term.Depth(x))
		}
		spans, n := term.Spans(x), 0
		for i, got := range term.All(x) {
			nth, ok := term.Nth(x, i)
			if i != n || !ok || told(got, true) != told(l[i], true) || told(nth, true) != told(l[i], true) || spans[i] != l[i].At {
				t.Fatalf("%v has as %d: %v, %v, %v", x, i, got, nth, spans[i])
			}
			n++
		}
		if _, ok := term.Nth(x, n); ok || n != len(l) || len(spans) != n {
			t.Fatalf("%v has %d terms, and %d spans, want %d", x, n, len(spans), len(l))
		}
	}
}

func TestAllPairsOfSmallTerms(t *testing.T) {
	l := smallTerms(2)
	l = append(l, smallTerms(3)[:200]...)
	for _, a := range l {
		for _, b := range l {
			if same, want := term.Same(a, b), told(a, false) == told(b, false); same != want {
				t.Fatalf("Same(%v, %v) = %v", a, b, same)
			}
			if equal, want := term.Equal(a, b), told(a, true) == told(b, true); equal != want {
				t.Fatalf("Equal(%v, %v) = %v", a, b, equal)
			}
		}
	}
}

// deepTerms is right terms of that many levels, and one more.
func deepTerms() map[string]api.Term {
	l := map[string]func(t api.Term) api.Term{
		"functions":    func(t api.Term) api.Term { return named(api.Lam, "x", t) },
		"applications": func(t api.Term) api.Term { return node(api.App, t, num(1)) },
		"to the right": func(t api.Term) api.Term { return named(api.Let, "x", num(1), t) },
		"tuples":       func(t api.Term) api.Term { return node(api.Tuple, num(1), t, num(1)) },
	}
	terms := map[string]api.Term{}
	for what, around := range l {
		t := num(1)
		for range deep {
			t = around(t)
		}
		terms[what] = t
	}
	return terms
}

func TestDeepTerms(t *testing.T) {
	defer debug.SetMaxStack(debug.SetMaxStack(4 << 20))
	for what, x := range deepTerms() {
		same := term.Copy(x)
		if !term.Right(x) || term.Depth(x) != deep+1 || !term.Same(x, same) || !term.Equal(x, same) || !term.Nested(x) {
			t.Errorf("%s: wrong", what)
		}
		if size := term.Size(x); size <= deep || len(term.Spans(x)) != size || term.Size(term.Apply(x, x)) != 2*size+1 {
			t.Errorf("%s: size %d", what, size)
		}
		if got, ok := term.Nth(x, deep/2); !ok || term.Size(got) > term.Size(x) {
			t.Errorf("%s: none in the middle", what)
		}
	}
}

func TestAllOfDeepTermsIsLeft(t *testing.T) {
	defer debug.SetMaxStack(debug.SetMaxStack(4 << 20))
	for what, x := range deepTerms() {
		n := 0
		for i, got := range term.All(x) {
			if want, _ := term.Nth(x, i); i != n || !term.Equal(got, want) {
				t.Fatalf("%s: the number %d is told as %d, of kind %d", what, n, i, got.Kind)
			}
			n++
			if n == 3 {
				break
			}
		}
	}
}

// All terms of the deepest one here have, together, nearly the 2^31 - 1 bytes that are promised of.
func TestAllOfADeepTermGivesOnesOwn(t *testing.T) {
	for what, c := range map[string]struct {
		levels int
		around func(t api.Term) api.Term
		inner  func(t api.Term) *api.Term // the part that goes on
	}{
		"functions":    {6190, func(t api.Term) api.Term { return named(api.Lam, "x", t) }, func(t api.Term) *api.Term { return &t.Parts[0] }},
		"applications": {1000, func(t api.Term) api.Term { return node(api.App, t, variable("x")) }, func(t api.Term) *api.Term { return &t.Parts[0] }},
		"to the right": {1000, func(t api.Term) api.Term { return named(api.Let, "x", num(1), t) }, func(t api.Term) *api.Term { return &t.Parts[1] }},
	} {
		x := variable("x")
		for range c.levels {
			x = c.around(x)
		}
		n, size := 0, term.Size(x)
		for i, got := range term.All(x) {
			if i != n || got.Kind == 77 {
				t.Fatalf("%s: the number %d is told as %d, of kind %d", what, n, i, got.Kind)
			}
			n++
			if len(got.Parts) > 0 {
				inner := c.inner(got)
				for j := range inner.Parts {
					inner.Parts[j].Kind = 77
				}
				inner.Kind = 77
			}
		}
		if n != size {
			t.Errorf("%s: All tells %d, want %d", what, n, size)
		}
	}
}
