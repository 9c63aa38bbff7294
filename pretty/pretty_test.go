package pretty_test

import (
	"math"
	"runtime/debug"
	"slices"
	"strconv"
	"strings"
	"testing"

	"pangram/api"
	"pangram/lex"
	"pangram/parse"
	"pangram/pretty"
	"pangram/signature"
	"pangram/term"
	"pangram/types"
)

const deep = 1 << 17 // levels: calls within calls as deep would take more than the stack that TestDeepTerms gives

func variable(name string) api.Term { return api.Term{Kind: api.Var, Name: name} }

func num(n int) api.Term { return api.Term{Kind: api.Int, N: n} }

func truth(n int) api.Term { return api.Term{Kind: api.Bool, N: n} }

func node(kind int, parts ...api.Term) api.Term { return api.Term{Kind: kind, Parts: parts} }

func named(kind int, name string, parts ...api.Term) api.Term {
	return api.Term{Kind: kind, Name: name, Parts: parts}
}

func ann(s string, part api.Term) api.Term {
	t, e := signature.Parse(s)
	if e != api.OK {
		panic("no type: " + s)
	}
	return api.Term{Kind: api.Ann, Type: t, Parts: []api.Term{part}}
}

// wrongTerms is terms that aren't right, by what is wrong with them.
func wrongTerms() map[string]api.Term {
	x := variable("x")
	return map[string]api.Term{
		"the zero one":             {},
		"a kind above 10":          {Kind: 11},
		"a kind below 0":           node(-1, x, x),
		"no name":                  variable(""),
		"a word as name":           variable("in"),
		"a long name":              variable(strings.Repeat("a", 21)),
		"a variable below 0":       {Kind: api.Var, Name: "x", N: -1},
		"a variable with parts":    named(api.Var, "x", x),
		"a number below 0":         num(-1),
		"a number of 10 digits":    num(1000000000),
		"a number with a name":     {Kind: api.Int, Name: "x"},
		"a truth of 2":             truth(2),
		"a function without parts": named(api.Lam, "x"),
		"a function of two parts":  named(api.Lam, "x", x, x),
		"a function without name":  node(api.Lam, x),
		"let without its second":   named(api.Let, "x", x),
		"let rec, called rec":      named(api.Rec, "rec", x, x),
		"an application of one":    node(api.App, x),
		"an application of three":  node(api.App, x, x, x),
		"an if of two":             node(api.If, x, x),
		"an if of four":            node(api.If, x, x, x, x),
		"a tuple without parts":    node(api.Tuple),
		"a tuple of one":           node(api.Tuple, x),
		"a tuple of nine":          node(api.Tuple, slices.Repeat([]api.Term{x}, 9)...),
		"an annotation's variable": {Kind: api.Ann, Type: types.Var(0), Parts: []api.Term{x}},
		"an annotation of no type": node(api.Ann, x),
		"a type without Ann":       {Kind: api.Int, Type: api.Type{Kind: api.TInt}},
		"a wrong part":             node(api.App, x, named(api.Lam, "x", node(api.Tuple, x))),
	}
}

// samples is terms, each kind among them, with their texts.
func samples() map[string]api.Term {
	f, x, y, one := variable("f"), variable("x"), variable("y"), num(1)
	identity := named(api.Lam, "x", x)
	return map[string]api.Term{
		"x":                                 x,
		"a_0z":                              variable("a_0z"),
		strings.Repeat("a", 20):             variable(strings.Repeat("a", 20)),
		"0":                                 num(0),
		"999999999":                         num(999999999),
		"100":                               num(100),
		"true":                              truth(1),
		"false":                             truth(0),
		"fun x -> x":                        identity,
		"fun f -> fun x -> f x":             named(api.Lam, "f", named(api.Lam, "x", node(api.App, f, x))),
		"let x = 1 in x":                    named(api.Let, "x", one, x),
		"let rec f = fun x -> x in f":       named(api.Rec, "f", identity, f),
		"let recs = 1 in recs":              named(api.Let, "recs", one, variable("recs")),
		"if true then 1 else 0":             node(api.If, truth(1), one, num(0)),
		"f x":                               node(api.App, f, x),
		"f x y":                             node(api.App, node(api.App, f, x), y),
		"f (x y)":                           node(api.App, f, node(api.App, x, y)),
		"f x (y 1) 1":                       node(api.App, node(api.App, node(api.App, f, x), node(api.App, y, one)), one),
		"f (x (y 1))":                       node(api.App, f, node(api.App, x, node(api.App, y, one))),
		"f x (fun x -> x)":                  node(api.App, node(api.App, f, x), identity),
		"(fun x -> x) 1":                    node(api.App, identity, one),
		"(fun x -> x) (fun x -> x)":         node(api.App, identity, identity),
		"fun f -> f (fun x -> x) 1":         named(api.Lam, "f", node(api.App, node(api.App, f, identity), one)),
		"(let x = 1 in f) (let x = 1 in x)": node(api.App, named(api.Let, "x", one, f), named(api.Let, "x", one, x)),
		"(let rec f = f in f) (let rec x = x in x)": node(api.App, named(api.Rec, "f", f, f), named(api.Rec, "x", x, x)),
		"(if x then f else f) (if x then y else y)": node(api.App, node(api.If, x, f, f), node(api.If, x, y, y)),
		"(x, 1)":                      node(api.Tuple, x, one),
		"(x, y, 1, 1, 1, 1, 1, true)": node(api.Tuple, x, y, one, one, one, one, one, truth(1)),
		"((x, y), f x, fun x -> x)":   node(api.Tuple, node(api.Tuple, x, y), node(api.App, f, x), identity),
		"f (x, y) (x : int)":          node(api.App, node(api.App, f, node(api.Tuple, x, y)), ann("int", x)),
		"(f : int -> int) x":          node(api.App, ann("int -> int", f), x),
		"(f, x) y":                    node(api.App, node(api.Tuple, f, x), y),
		"(1 : bool)":                  ann("bool", one),
		"((1 : int) : int)":           ann("int", ann("int", one)),
		"(fun x -> x : (int * (bool -> int)) -> int -> bool)": ann("(int * (bool -> int)) -> int -> bool", identity),
		"(f x : (int -> int) -> (int * int))":                 ann("(int -> int) -> (int * int)", node(api.App, f, x)),
		"let x = let y = 1 in y in let y = x in y":            named(api.Let, "x", named(api.Let, "y", one, y), named(api.Let, "y", x, y)),
		"let f = f x in f (f x)":                              named(api.Let, "f", node(api.App, f, x), node(api.App, f, node(api.App, f, x))),
		"if if x then x else x then fun x -> x else if f x then 1 else (1, 1)": node(api.If, node(api.If, x, x, x), identity,
			node(api.If, node(api.App, f, x), one, node(api.Tuple, one, one))),
		"let rec f = if f x then f else f in let x = f in fun x -> let rec x = x in x": named(api.Rec, "f", node(api.If, node(api.App, f, x), f, f),
			named(api.Let, "x", f, named(api.Lam, "x", named(api.Rec, "x", x, x)))),
	}
}

// each is one right term of each kind.
func each() []api.Term {
	a := variable("a")
	return []api.Term{a, num(7), truth(1), truth(0), named(api.Lam, "b", a), node(api.App, a, num(2)), named(api.Let, "b", a, num(3)),
		named(api.Rec, "c", num(4), a), node(api.If, a, num(5), truth(1)), node(api.Tuple, a, a), ann("(int * bool) -> int", a)}
}

// smallTerms is right terms of up to so many levels.
func smallTerms(depth int) []api.Term {
	if depth == 1 {
		return []api.Term{variable("x"), num(1), truth(0)}
	}
	l, parts := smallTerms(1), smallTerms(depth-1)
	for i, a := range parts {
		l = append(l, named(api.Lam, "x", a), ann("int -> int", a))
		for j, b := range parts {
			l = append(l, node(api.App, a, b))
			// Where brackets stand is told by two kinds, so that of the other forms a few will do.
			if depth == 2 || (i+j)%5 == 0 {
				l = append(l, named(api.Let, "y", a, b), named(api.Rec, "y", a, b), node(api.If, a, b, a), node(api.Tuple, b, a))
			}
		}
	}
	return l
}

// told is a right term's text, by calls within calls.
func told(t api.Term) string {
	part := func(i int) string { return told(t.Parts[i]) }
	switch t.Kind {
	case api.Var:
		return t.Name
	case api.Int:
		return strconv.Itoa(t.N)
	case api.Bool:
		return map[int]string{0: "false", 1: "true"}[t.N]
	case api.Lam:
		return "fun " + t.Name + " -> " + part(0)
	case api.Let:
		return "let " + t.Name + " = " + part(0) + " in " + part(1)
	case api.Rec:
		return "let rec " + t.Name + " = " + part(0) + " in " + part(1)
	case api.If:
		return "if " + part(0) + " then " + part(1) + " else " + part(2)
	case api.Ann:
		return "(" + part(0) + " : " + types.Print(t.Type) + ")"
	case api.App:
		left, right := part(0), part(1)
		if slices.Contains([]int{api.Lam, api.Let, api.Rec, api.If}, t.Parts[0].Kind) {
			left = "(" + left + ")"
		}
		if slices.Contains([]int{api.Lam, api.Let, api.Rec, api.If, api.App}, t.Parts[1].Kind) {
			right = "(" + right + ")"
		}
		return left + " " + right
	}
	var parts []string
	for i := range t.Parts {
		parts = append(parts, part(i))
	}
	return "(" + strings.Join(parts, ", ") + ")"
}

// laid is a text in lines, by the words, token by token.
func laid(t *testing.T, text string, width int) []string {
	t.Helper()
	var lines []string
	l, _, e := lex.Words(text)
	if e != api.OK {
		t.Fatalf("no tokens: %q", text)
	}
	for i, token := range l[:len(l)-1] {
		if i == 0 {
			lines = append(lines, token.Text)
			continue
		}
		behind := lines[len(lines)-1]
		if l[i-1].At.To < token.At.From {
			behind += " "
		}
		behind += token.Text
		if len(behind) <= width {
			lines[len(lines)-1] = behind
			continue
		}
		lines = append(lines, token.Text)
	}
	return lines
}

// P7.1

func TestPrint(t *testing.T) {
	for text, x := range samples() {
		if got := pretty.Print(x); got != text {
			t.Errorf("Print = %q, want %q", got, text)
		}
	}
	for what, x := range wrongTerms() {
		if got := pretty.Print(x); got != "" {
			t.Errorf("%s is told: %q", what, got)
		}
		if got := pretty.Print(node(api.App, num(1), x)); got != "" {
			t.Errorf("%s is told as a part: %q", what, got)
		}
	}
}

func TestEachKindInEachOther(t *testing.T) {
	hole := variable("hole")
	for _, whole := range each() {
		for i := range whole.Parts {
			for _, part := range each() {
				x := term.Copy(whole)
				x.Parts[i] = hole
				around := pretty.Print(x)
				x.Parts[i] = part
				inner := pretty.Print(part)
				binds := part.Kind == api.Lam || part.Kind == api.Let || part.Kind == api.Rec || part.Kind == api.If
				if whole.Kind == api.App && (binds || i == 1 && part.Kind == api.App) {
					inner = "(" + inner + ")"
				}
				want := strings.Replace(around, "hole", inner, 1)
				if got := pretty.Print(x); got != want || strings.Count(around, "hole") != 1 {
					t.Errorf("Print = %q, want %q", got, want)
				}
			}
		}
	}
}

func TestSpansAndIndicesDontCount(t *testing.T) {
	x := api.Term{Kind: api.Var, Name: "x", N: math.MaxInt, At: api.Span{From: 9, To: -4}}
	y := api.Term{Kind: api.App, Parts: []api.Term{x, {Kind: api.Int, N: 3, Parts: []api.Term{}}}, At: api.Span{From: -1, To: math.MaxInt}}
	if got := pretty.Print(y); got != "x 3" {
		t.Errorf("Print = %q", got)
	}
}

func TestWhatIsToldStays(t *testing.T) {
	room := []api.Term{variable("f"), named(api.Lam, "x", variable("x")), num(9)}
	x := api.Term{Kind: api.App, Parts: room[:2], At: api.Span{From: 3, To: 9}}
	before := term.Copy(x)
	pretty.Print(x)
	pretty.Lines(x, 3)
	if !term.Equal(x, before) || !term.Equal(room[2], num(9)) {
		t.Errorf("what is told is changed: %v, %v", x, room[2])
	}
}

// P7.2

func TestLines(t *testing.T) {
	identity := named(api.Lam, "x", variable("x"))
	applied := node(api.App, node(api.App, variable("f"), variable("x")), identity)
	pair := node(api.Tuple, variable("abc"), ann("(int * int) -> bool", variable("d")))
	for _, c := range []struct {
		t     api.Term
		width int
		want  []string
	}{
		{num(12), 2, []string{"12"}},
		{num(12), 1, []string{"12"}},
		{num(12), 0, []string{"12"}},
		{num(12), -1, []string{"12"}},
		{num(12), math.MinInt, []string{"12"}},
		{num(12), math.MaxInt, []string{"12"}},
		{identity, 10, []string{"fun x -> x"}},
		{identity, 11, []string{"fun x -> x"}},
		{identity, 9, []string{"fun x ->", "x"}},
		{identity, 8, []string{"fun x ->", "x"}},
		{identity, 7, []string{"fun x", "-> x"}},
		{identity, 5, []string{"fun x", "-> x"}},
		{identity, 4, []string{"fun", "x ->", "x"}},
		{identity, 3, []string{"fun", "x", "->", "x"}},
		{identity, 2, []string{"fun", "x", "->", "x"}},
		{identity, 0, []string{"fun", "x", "->", "x"}},
		{identity, -7, []string{"fun", "x", "->", "x"}},
		{identity, math.MinInt, []string{"fun", "x", "->", "x"}},
		{identity, math.MaxInt, []string{"fun x -> x"}},
		{applied, 16, []string{"f x (fun x -> x)"}},
		{applied, 15, []string{"f x (fun x -> x", ")"}},
		{applied, 8, []string{"f x (fun", "x -> x)"}},
		{applied, 7, []string{"f x (", "fun x", "-> x)"}},
		{applied, 6, []string{"f x (", "fun x", "-> x)"}},
		{applied, 4, []string{"f x", "(fun", "x ->", "x)"}},
		{applied, 3, []string{"f x", "(", "fun", "x", "->", "x)"}},
		{applied, 1, []string{"f", "x", "(", "fun", "x", "->", "x", ")"}},
		{pair, 100, []string{"(abc, (d : (int * int) -> bool))"}},
		{pair, 5, []string{"(abc,", "(d :", "(int", "* int", ") ->", "bool)", ")"}},
		{pair, 4, []string{"(abc", ", (d", ": (", "int", "*", "int)", "->", "bool", "))"}},
		{pair, 2, []string{"(", "abc", ",", "(d", ":", "(", "int", "*", "int", ")", "->", "bool", "))"}},
		{pair, 1, []string{"(", "abc", ",", "(", "d", ":", "(", "int", "*", "int", ")", "->", "bool", ")", ")"}},
	} {
		if got := pretty.Lines(c.t, c.width); !slices.Equal(got, c.want) {
			t.Errorf("Lines(%s, %d) = %q, want %q", pretty.Print(c.t), c.width, got, c.want)
		}
	}
}

func TestNoLinesOfWrongTerms(t *testing.T) {
	for what, x := range wrongTerms() {
		for _, width := range []int{math.MinInt, -1, 0, 1, 80, math.MaxInt} {
			if got := pretty.Lines(x, width); len(got) != 0 {
				t.Errorf("%s has lines: %q", what, got)
			}
		}
	}
}

func TestLinesOfEachWidth(t *testing.T) {
	for text, x := range samples() {
		for width := -1; width <= len(text)+1; width++ {
			got := pretty.Lines(x, width)
			if want := laid(t, text, width); !slices.Equal(got, want) {
				t.Errorf("Lines(%s, %d) = %q, want %q", text, width, got, want)
			}
			if width >= len(text) && len(got) != 1 {
				t.Errorf("%q isn't one line of %d", text, width)
			}
			again, _, e := parse.Term(strings.Join(got, " "), math.MaxInt)
			if e != api.OK || !term.Same(again, x) {
				t.Errorf("lines of %d, with blanks between, are another term: %q", width, got)
			}
		}
	}
}

func TestLinesAreNewMemory(t *testing.T) {
	x := node(api.Tuple, num(1), num(2), num(3))
	first := pretty.Lines(x, 4)
	want := slices.Clone(first)
	for i := range first {
		first[i] = "changed"
	}
	_ = append(first, "more")
	if got := pretty.Lines(x, 4); !slices.Equal(got, want) {
		t.Errorf("Lines = %q, want %q", got, want)
	}
}

// P7.3

func TestNormal(t *testing.T) {
	for text, want := range map[string]string{
		"x":                                  "x",
		"((x))":                              "x",
		"(f x) (fun x -> x)":                 "f x (fun x -> x)",
		" f\t( x )\n(\r1 ) # no":             "f x 1",
		"f (x y) # (\n (z)":                  "f (x y) z",
		"(((f x)) y)":                        "f x y",
		"fun x->(fun y->(x))":                "fun x -> fun y -> x",
		"let x=(1)in(x)":                     "let x = 1 in x",
		"let rec f=(fun x->f x)in f":         "let rec f = fun x -> f x in f",
		"if(true)then(1)else(fun x -> 2)":    "if true then 1 else fun x -> 2",
		"(1,(2),((3,4)))":                    "(1, 2, (3, 4))",
		"(1:(int))":                          "(1 : int)",
		"(f:(int*bool->int)->(int->(bool)))": "(f : (int * (bool -> int)) -> int -> bool)",
		"((fun x -> x) : int -> int) 1":      "(fun x -> x : int -> int) 1",
		"((let x = 1 in f)) 2":               "(let x = 1 in f) 2",
		"0":                                  "0",
	} {
		if got, e := pretty.Normal(text); got != want || e != api.OK {
			t.Errorf("Normal(%q) = %q, %d, want %q", text, got, e, want)
		}
		if got, e := pretty.Normal(want); got != want || e != api.OK {
			t.Errorf("Normal of Normal: %q, %d, want %q", got, e, want)
		}
	}
}

func TestNormalOfWhatIsNotRead(t *testing.T) {
	for text, want := range map[string]api.Errno{
		"":                      api.ErrForm,
		"# x":                   api.ErrForm,
		"fun x":                 api.ErrForm,
		"x )":                   api.ErrForm,
		"(x":                    api.ErrForm,
		"f fun x -> x":          api.ErrForm,
		"let x = 1":             api.ErrForm,
		"(1, )":                 api.ErrForm,
		"(1 : 'a)":              api.ErrForm,
		"(1 : x)":               api.ErrForm,
		"07":                    api.ErrForm,
		"X":                     api.ErrForm,
		"x - y":                 api.ErrForm,
		"é":                     api.ErrForm,
		"\x00":                  api.ErrForm,
		strings.Repeat("a", 21): api.ErrLong,
		"1234567890":            api.ErrLong,
		"(1,2,3,4,5,6,7,8,9)":   api.ErrMany,
		"(1:(int*int*int*int*int*int*int*int*int))": api.ErrMany,
		") 1234567890":          api.ErrLong,
		") (1,2,3,4,5,6,7,8,9)": api.ErrForm,
		"(1,2,3,4,5,6,7,8,9) )": api.ErrMany,
	} {
		if got, e := pretty.Normal(text); got != "" || e != want {
			t.Errorf("Normal(%q) = %q, %d, want %d", text, got, e, want)
		}
	}
}

func TestNormalOfAnyLevel(t *testing.T) {
	defer debug.SetMaxStack(debug.SetMaxStack(4 << 20))
	open, shut := strings.Repeat("(", deep), strings.Repeat(")", deep)
	functions := strings.Repeat("fun x -> ", deep) + "x"
	for text, want := range map[string]string{
		open + "x" + shut:       "x",
		functions:               functions,
		open + functions + shut: functions,
		"f " + strings.Repeat("(f ", deep) + "1" + shut: "f " + strings.Repeat("(f ", deep-1) + "(f 1" + shut,
		open + "x" + strings.Repeat(" 1)", deep):        "x" + strings.Repeat(" 1", deep),
		"(1 : " + open + "int" + shut + ")":             "(1 : int)",
	} {
		if got, e := pretty.Normal(text); got != want || e != api.OK {
			t.Errorf("Normal of %d bytes (%.20q) = %d bytes (%.20q), %d", len(text), text, len(got), got, e)
		}
	}
	if got, e := pretty.Normal(open + "x" + shut[1:]); got != "" || e != api.ErrForm {
		t.Errorf("Normal without a bracket = %.20q, %d", got, e)
	}
}

// P7.4, and P7.1, P7.2 by a second way

func TestSmallTerms(t *testing.T) {
	texts := map[string]bool{}
	l := smallTerms(3)
	for i, x := range l {
		text := pretty.Print(x)
		if want := told(x); text != want {
			t.Fatalf("Print = %q, want %q", text, want)
		}
		again, _, e := parse.Term(text, math.MaxInt)
		if e != api.OK || !term.Same(again, x) || !term.Nested(again) {
			t.Fatalf("%q is read as another term: %d", text, e)
		}
		if normal, e := pretty.Normal(text); normal != text || e != api.OK {
			t.Fatalf("Normal(%q) = %q, %d", text, normal, e)
		}
		width := i % 40
		lines := pretty.Lines(x, width)
		if want := laid(t, text, width); !slices.Equal(lines, want) {
			t.Fatalf("Lines(%q, %d) = %q, want %q", text, width, lines, want)
		}
		if normal, e := pretty.Normal(strings.Join(lines, " ")); normal != text || e != api.OK {
			t.Fatalf("Normal of %q = %q, %d", lines, normal, e)
		}
		texts[text] = true
	}
	if len(texts) != len(l) {
		t.Errorf("%d terms have %d texts", len(l), len(texts))
	}
}

func TestDeepTerms(t *testing.T) {
	defer debug.SetMaxStack(debug.SetMaxStack(4 << 20))
	one := num(1)
	for what, around := range map[string]func(t api.Term) api.Term{
		"functions":    func(t api.Term) api.Term { return named(api.Lam, "x", t) },
		"to the left":  func(t api.Term) api.Term { return node(api.App, t, one) },
		"to the right": func(t api.Term) api.Term { return node(api.App, one, t) },
		"let":          func(t api.Term) api.Term { return named(api.Let, "x", t, one) },
		"tuples":       func(t api.Term) api.Term { return node(api.Tuple, one, t) },
		"annotations":  func(t api.Term) api.Term { return ann("int", t) },
	} {
		x := variable("x")
		for range deep {
			x = around(x)
		}
		text := pretty.Print(x)
		again, _, e := parse.Term(text, math.MaxInt)
		if e != api.OK || !term.Same(again, x) {
			t.Errorf("%s: a text of %d bytes is read as another term: %d", what, len(text), e)
		}
		if lines := pretty.Lines(x, math.MaxInt); len(lines) != 1 || lines[0] != text {
			t.Errorf("%s: %d lines", what, len(lines))
		}
		l, _, _ := lex.Words(text)
		if lines := pretty.Lines(x, 0); len(lines) != len(l)-1 {
			t.Errorf("%s: %d lines of %d tokens", what, len(lines), len(l)-1)
		}
		x.N = -1
		if pretty.Print(x) != "" || len(pretty.Lines(x, 9)) != 0 {
			t.Errorf("%s: told, though it isn't right", what)
		}
	}
}
