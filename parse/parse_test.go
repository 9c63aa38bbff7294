package parse_test

import (
	"math"
	"runtime/debug"
	"slices"
	"strconv"
	"strings"
	"testing"

	"pangram/api"
	"pangram/lex"
	"pangram/parse"
	"pangram/signature"
	"pangram/term"
)

const deep = 1 << 17 // levels: calls within calls as deep would take more than the stack that TestDeepTexts gives

func at(from, to int, t api.Term) api.Term {
	t.At = api.Span{From: from, To: to}
	return t
}

func variable(from, to int, name string) api.Term {
	return at(from, to, api.Term{Kind: api.Var, Name: name})
}

func num(from, to, n int) api.Term { return at(from, to, api.Term{Kind: api.Int, N: n}) }

func truth(from, to, n int) api.Term { return at(from, to, api.Term{Kind: api.Bool, N: n}) }

func node(from, to, kind int, parts ...api.Term) api.Term {
	return at(from, to, api.Term{Kind: kind, Parts: parts})
}

func named(from, to, kind int, name string, parts ...api.Term) api.Term {
	return at(from, to, api.Term{Kind: kind, Name: name, Parts: parts})
}

func ann(from, to int, t api.Type, part api.Term) api.Term {
	return at(from, to, api.Term{Kind: api.Ann, Type: t, Parts: []api.Term{part}})
}

func typeOf(t *testing.T, s string) api.Type {
	t.Helper()
	x, e := signature.Parse(s)
	if e != api.OK {
		t.Fatalf("no type: %q", s)
	}
	return x
}

func tokens(t *testing.T, s string) []api.Token {
	t.Helper()
	l, place, e := lex.Words(s)
	if e != api.OK {
		t.Fatalf("no tokens: %q, %d, %d", s, place, e)
	}
	return l
}

// wantTerm wants of a text a term, with all its spans.
func wantTerm(t *testing.T, s string, want api.Term) {
	t.Helper()
	got, span, e := parse.Term(s, 99)
	if e != api.OK || span != (api.Span{}) || !term.Equal(got, want) {
		t.Errorf("Term(%q) = %v, %v, %d, want %v", s, got, span, e, want)
	}
	l := tokens(t, s)
	got, n, e := parse.Tokens(l, 99)
	if e != api.OK || n != len(l) || !term.Equal(got, want) {
		t.Errorf("Tokens of %q = %v, %d, %d, want %v, %d", s, got, n, e, want, len(l))
	}
}

// wantWrong wants of a text's tokens, up to a level, the number of the first wrong one, and its error.
func wantWrong(t *testing.T, s string, most, number int, e api.Errno) {
	t.Helper()
	l := tokens(t, s)
	wantWrongTokens(t, l, most, number, e)
	got, span, gotE := parse.Term(s, most)
	if gotE != e || span != l[number].At || !term.Equal(got, api.Term{}) {
		t.Errorf("Term(%q, %d) = %v, %v, %d, want none, %v, %d", s, most, got, span, gotE, l[number].At, e)
	}
}

func wantWrongTokens(t *testing.T, l []api.Token, most, number int, e api.Errno) {
	t.Helper()
	got, n, gotE := parse.Tokens(l, most)
	if gotE != e || n != number || !term.Equal(got, api.Term{}) {
		t.Errorf("Tokens(%q, %d) = %v, %d, %d, want none, %d, %d", lex.Print(l...), most, got, n, gotE, number, e)
	}
}

func row(n int, part string) string {
	return "(" + strings.Join(slices.Repeat([]string{part}, n), ", ") + ")"
}

// P6.1, and the terms of P6.2

func TestAtoms(t *testing.T) {
	wantTerm(t, "x", variable(0, 1, "x"))
	wantTerm(t, "  recs ", variable(2, 6, "recs"))
	wantTerm(t, "0", num(0, 1, 0))
	wantTerm(t, "999999999", num(0, 9, 999999999))
	wantTerm(t, "# 1\n70", num(4, 6, 70))
	wantTerm(t, "true", truth(0, 4, 1))
	wantTerm(t, "false # no", truth(0, 5, 0))
	wantTerm(t, "(x)", variable(1, 2, "x"))
	wantTerm(t, "(((7)))", num(3, 4, 7))
	wantTerm(t, "( x : int )", ann(0, 11, typeOf(t, "int"), variable(2, 3, "x")))
	wantTerm(t, "((x):bool)", ann(0, 10, typeOf(t, "bool"), variable(2, 3, "x")))
	wantTerm(t, "((x : int) : int -> bool)", ann(0, 25, typeOf(t, "int -> bool"), ann(1, 10, typeOf(t, "int"), variable(2, 3, "x"))))
	wantTerm(t, "(1:(int*bool->int)->(int))", ann(0, 26, typeOf(t, "(int * (bool -> int)) -> int"), num(1, 2, 1)))
	wantTerm(t, "(f x : int)", ann(0, 11, typeOf(t, "int"), node(1, 4, api.App, variable(1, 2, "f"), variable(3, 4, "x"))))
	wantTerm(t, "(1, true)", node(0, 9, api.Tuple, num(1, 2, 1), truth(4, 8, 1)))
	wantTerm(t, "((1, 2))", node(1, 7, api.Tuple, num(2, 3, 1), num(5, 6, 2)))
	wantTerm(t, "((1), (2, 3), x)", node(0, 16, api.Tuple, num(2, 3, 1), node(6, 12, api.Tuple, num(7, 8, 2), num(10, 11, 3)), variable(14, 15, "x")))
	for n := 2; n <= 8; n++ {
		var parts []api.Term
		for i := range n {
			parts = append(parts, num(3*i+1, 3*i+2, 5))
		}
		wantTerm(t, row(n, "5"), node(0, 3*n, api.Tuple, parts...))
	}
}

func TestForms(t *testing.T) {
	wantTerm(t, "fun x -> x", named(0, 10, api.Lam, "x", variable(9, 10, "x")))
	wantTerm(t, "fun x->fun y->1", named(0, 15, api.Lam, "x", named(7, 15, api.Lam, "y", num(14, 15, 1))))
	wantTerm(t, "let x = 1 in x", named(0, 14, api.Let, "x", num(8, 9, 1), variable(13, 14, "x")))
	wantTerm(t, "let rec f = 1 in f", named(0, 18, api.Rec, "f", num(12, 13, 1), variable(17, 18, "f")))
	wantTerm(t, "if true then 1 else 2", node(0, 21, api.If, truth(3, 7, 1), num(13, 14, 1), num(20, 21, 2)))
	wantTerm(t, " let x=let y=1 in y in let z=x in z ", named(1, 35, api.Let, "x",
		named(7, 19, api.Let, "y", num(13, 14, 1), variable(18, 19, "y")),
		named(23, 35, api.Let, "z", variable(29, 30, "x"), variable(34, 35, "z"))))
	wantTerm(t, "if if a then b else c then d else if e then f else g", node(0, 52, api.If,
		node(3, 21, api.If, variable(6, 7, "a"), variable(13, 14, "b"), variable(20, 21, "c")), variable(27, 28, "d"),
		node(34, 52, api.If, variable(37, 38, "e"), variable(44, 45, "f"), variable(51, 52, "g"))))
	wantTerm(t, "fun f -> f 1 2", named(0, 14, api.Lam, "f",
		node(9, 14, api.App, node(9, 12, api.App, variable(9, 10, "f"), num(11, 12, 1)), num(13, 14, 2))))
	wantTerm(t, "let f = fun x -> x in f f", named(0, 25, api.Let, "f", named(8, 18, api.Lam, "x", variable(17, 18, "x")),
		node(22, 25, api.App, variable(22, 23, "f"), variable(24, 25, "f"))))
	wantTerm(t, "(fun x -> x, if a then b else c)", node(0, 32, api.Tuple, named(1, 11, api.Lam, "x", variable(10, 11, "x")),
		node(13, 31, api.If, variable(16, 17, "a"), variable(23, 24, "b"), variable(30, 31, "c"))))
	wantTerm(t, "(let x = 1 in x : int)", ann(0, 22, typeOf(t, "int"), named(1, 15, api.Let, "x", num(9, 10, 1), variable(14, 15, "x"))))
}

func TestSpansOfBrackets(t *testing.T) {
	wantTerm(t, "f (x) 1", node(0, 7, api.App, node(0, 5, api.App, variable(0, 1, "f"), variable(3, 4, "x")), num(6, 7, 1)))
	wantTerm(t, "(f) x", node(0, 5, api.App, variable(1, 2, "f"), variable(4, 5, "x")))
	wantTerm(t, "f (x)", node(0, 5, api.App, variable(0, 1, "f"), variable(3, 4, "x")))
	wantTerm(t, "((f)) ((x))", node(0, 11, api.App, variable(2, 3, "f"), variable(8, 9, "x")))
	wantTerm(t, "(f x) y", node(0, 7, api.App, node(1, 4, api.App, variable(1, 2, "f"), variable(3, 4, "x")), variable(6, 7, "y")))
	wantTerm(t, "f (x y)", node(0, 7, api.App, variable(0, 1, "f"), node(3, 6, api.App, variable(3, 4, "x"), variable(5, 6, "y"))))
	wantTerm(t, "(f (x))", node(1, 6, api.App, variable(1, 2, "f"), variable(4, 5, "x")))
	wantTerm(t, "(f) (x) (y)", node(0, 11, api.App, node(0, 7, api.App, variable(1, 2, "f"), variable(5, 6, "x")), variable(9, 10, "y")))
	wantTerm(t, "fun x -> (x)", named(0, 12, api.Lam, "x", variable(10, 11, "x")))
	wantTerm(t, "(fun x -> (x))", named(1, 13, api.Lam, "x", variable(11, 12, "x")))
	wantTerm(t, "(fun x -> x) (1)", node(0, 16, api.App, named(1, 11, api.Lam, "x", variable(10, 11, "x")), num(14, 15, 1)))
	wantTerm(t, "let x = (1) in (x)", named(0, 18, api.Let, "x", num(9, 10, 1), variable(16, 17, "x")))
	wantTerm(t, "let rec x = (1) in ((x))", named(0, 24, api.Rec, "x", num(13, 14, 1), variable(21, 22, "x")))
	wantTerm(t, "if (a) then (b) else (c)", node(0, 24, api.If, variable(4, 5, "a"), variable(13, 14, "b"), variable(22, 23, "c")))
	wantTerm(t, "if a then b else f ((c))", node(0, 24, api.If, variable(3, 4, "a"), variable(10, 11, "b"),
		node(17, 24, api.App, variable(17, 18, "f"), variable(21, 22, "c"))))
	wantTerm(t, "((1), (f (x)))", node(0, 14, api.Tuple, num(2, 3, 1), node(7, 12, api.App, variable(7, 8, "f"), variable(10, 11, "x"))))
	wantTerm(t, "f (1, (2)) (3 : int)", node(0, 20, api.App,
		node(0, 10, api.App, variable(0, 1, "f"), node(2, 10, api.Tuple, num(3, 4, 1), num(7, 8, 2))),
		ann(11, 20, typeOf(t, "int"), num(12, 13, 3))))
	wantTerm(t, "( ( x ) : int )", ann(0, 15, typeOf(t, "int"), variable(4, 5, "x")))
	wantTerm(t, "fun x -> (fun y -> (y)) (x)", named(0, 27, api.Lam, "x",
		node(9, 27, api.App, named(10, 22, api.Lam, "y", variable(20, 21, "y")), variable(25, 26, "x"))))
}

func TestTokensOfNoText(t *testing.T) {
	// What is read hangs on the tokens alone: these have spans of their own.
	word := func(kind int, text string, from, to int) api.Token {
		return api.Token{Kind: kind, Text: text, At: api.Span{From: from, To: to}}
	}
	l := []api.Token{word(api.Sign, "(", 50, 51), word(api.Name, "f", 10, 11), word(api.Sign, ")", 30, 31), word(api.Number, "12", 7, 9),
		word(api.Sign, "(", 3, 4), word(api.Word, "true", 90, 94), word(api.Sign, ",", 5, 6), word(api.Name, "x", 0, 1), word(api.Sign, ")", 20, 21), {}}
	want := node(50, 21, api.App, node(50, 9, api.App, variable(10, 11, "f"), num(7, 9, 12)),
		node(3, 21, api.Tuple, truth(90, 94, 1), variable(0, 1, "x")))
	if got, n, e := parse.Tokens(l, 9); e != api.OK || n != 10 || !term.Equal(got, want) {
		t.Errorf("%v, %d, %d, want %v", got, n, e, want)
	}
}

func TestFirstWrongToken(t *testing.T) {
	for s, number := range map[string]int{
		// nothing, and what begins no expression
		"": 0, "# x": 0, ")": 0, ",": 0, ":": 0, "=": 0, "*": 0, "->": 0, "in": 0, "then": 0, "else": 0, "rec": 0, "int": 0, "bool": 0, "-> x": 0,
		// behind an expression
		"x )": 1, "x , y": 1, "x : int": 1, "x = y": 1, "x in y": 1, "x -> y": 1, "x then": 1, "x else": 1, "x * y": 1, "x rec": 1, "x int": 1, "1 bool": 1,
		"f fun x -> x": 1, "f let x = 1 in x": 1, "f x if a then b else c": 2, "x y )": 2, "(x) )": 3, "(x) : int": 3, "(x, y) , z": 5,
		// functions
		"fun": 1, "fun fun": 1, "fun 1 -> x": 1, "fun (x) -> x": 1, "fun rec -> x": 1, "fun -> x": 1, "fun true -> 1": 1, "fun int -> 1": 1,
		"fun x": 2, "fun x y -> x": 2, "fun x = x": 2, "fun x x": 2, "fun x : int -> x": 2, "fun x ->": 3, "fun x -> )": 3, "fun x -> -> x": 3, "fun x -> x ->": 4,
		"fun x -> x in x": 4,
		// let
		"let": 1, "let let": 1, "let 1 = 2 in 3": 1, "let = 1": 1, "let in": 1, "let (x) = 1 in x": 1, "let true = 1 in 1": 1,
		"let x": 2, "let x x": 2, "let x y = 1 in 1": 2, "let x -> 1": 2, "let x : int = 1 in x": 2, "let x in x": 2, "let x rec": 2, "let x =": 3, "let x = in x": 3, "let x = = 1": 3,
		"let x = 1": 4, "let x = 1 then": 4, "let x = 1 )": 4, "let x = 1 let": 4, "let x = 1 = 2": 4, "let x = 1 2": 5, "let x = 1 in": 5, "let x = 1 in in": 5,
		"let x = 1 in x in x": 6, "let x = 1 in )": 5, "let x = let y = 1 in y": 9,
		"let rec": 2, "let rec rec": 2, "let rec = 1": 2, "let rec 1": 2, "let rec let": 2, "let rec f": 3, "let rec f -> 1": 3, "let rec f x = 1": 3, "let rec f =": 4,
		"let rec f = 1": 5, "let rec f = 1 in": 6, "let rec f = 1 else": 5, "rec f = 1 in f": 0,
		// if
		"if": 1, "if then": 1, "if )": 1, "if 1": 2, "if 1 else": 2, "if 1 in": 2, "if 1 if": 2, "if 1 then": 3, "if 1 then then": 3, "if 1 then else": 3,
		"if 1 then 2": 4, "if 1 then 2 then": 4, "if 1 then 2 in": 4, "if 1 then 2 3": 5, "if 1 then 2 else": 5, "if 1 then 2 else else": 5,
		"if 1 then 2 else 3 else 4": 6, "if 1 then if 2 then 3 else 4": 9, "then 1": 0,
		// brackets
		"(": 1, "()": 1, "(,": 1, "(:": 1, "((": 2, "(x": 2, "(x x": 3, "(x in": 2, "(x = 1)": 2, "(x * y)": 2, "(x -> y)": 2, "(x fun": 2, "(x then": 2,
		"(x,": 3, "(x,)": 3, "(x,,": 3, "(x, y": 4, "(x, y,)": 5, "(x, y : int)": 4, "(x, y in": 4, "(1, 2, 3 :": 6, "(fun x -> x": 5, "(fun x ->)": 4,
		"(x :": 3, "(x : )": 3, "(x : x)": 3, "(x : 1)": 3, "(x : int": 4, "(x : int x)": 4, "(x : int int)": 4, "(x : int : int)": 4, "(x : int, 1)": 4, "(x : int * int)": 4,
		"(x : int -> )": 5, "(x : int ->": 5, "(x : int -> int": 6, "(x : (int, int))": 5, "(x : (int * ))": 6, "(x : ())": 4, "(x : (int)": 6, "(x : fun": 3,
		"f (": 2, "f (x": 3, "f (x y": 4, "f (x,": 4, "(x) (": 4, "let x = (1 in x": 5, "if (1 then": 3,
	} {
		wantWrong(t, s, 99, number, api.ErrForm)
		wantWrong(t, s, math.MaxInt, number, api.ErrForm)
	}
}

func TestWithoutAnEnd(t *testing.T) {
	for _, s := range []string{"", "x", "f x", "(x)", "(1 : int)", "(1, 2)", "fun x -> x", "let x = 1 in x", "let rec x = 1 in (x)", "if a then b else c d"} {
		l := tokens(t, s)
		for n := range l {
			wantWrongTokens(t, l[:n:n], 99, n, api.ErrForm)
		}
	}
	wantWrongTokens(t, nil, 1, 0, api.ErrForm)
	wantWrongTokens(t, nil, 0, 0, api.ErrDeep)
	wantWrongTokens(t, []api.Token{}, math.MinInt, 0, api.ErrDeep)
	wantWrongTokens(t, tokens(t, "fun x ->")[:3], 1, 3, api.ErrDeep)
	wantWrongTokens(t, tokens(t, "fun x ->")[:3], 2, 3, api.ErrForm)
	wantWrongTokens(t, tokens(t, "(x :")[:3], 2, 3, api.ErrDeep)
	wantWrongTokens(t, tokens(t, "(x :")[:3], 3, 3, api.ErrForm)
}

func TestWhatStandsBehindTheEnd(t *testing.T) {
	for _, rest := range []string{"", "x", ")", "->", "x y", "( ("} {
		l := append(tokens(t, "f (1, x)"), tokens(t, rest)...)
		want := node(0, 8, api.App, variable(0, 1, "f"), node(2, 8, api.Tuple, num(3, 4, 1), variable(6, 7, "x")))
		if got, n, e := parse.Tokens(l, 99); e != api.OK || n != 7 || !term.Equal(got, want) {
			t.Errorf("%q behind the End: %v, %d, %d", rest, got, n, e)
		}
		wantWrongTokens(t, append(tokens(t, "f ("), tokens(t, rest)...), 99, 2, api.ErrForm)
		wantWrongTokens(t, append(tokens(t, ""), tokens(t, rest)...), 99, 0, api.ErrForm)
		wantWrongTokens(t, append(tokens(t, ""), tokens(t, rest)...), 0, 0, api.ErrDeep)
		wantWrongTokens(t, append(tokens(t, "(x : int ->"), tokens(t, rest)...), 99, 5, api.ErrForm)
	}
}

func TestDeepest(t *testing.T) {
	for _, c := range []struct {
		s            string
		level, token int // the text's level; the first token of the first expression, or type, of that level
	}{
		{"x", 1, 0}, {"f x y 1", 1, 0}, {"(x)", 2, 1}, {"f (x)", 2, 2}, {"f (x) (y)", 2, 2}, {"((x))", 3, 2}, {"f ((x)) y", 3, 3},
		{"fun x -> x", 2, 3}, {"fun x -> fun y -> 1", 3, 6}, {"let x = 1 in x", 2, 3}, {"let x = fun y -> 1 in x", 3, 6}, {"let x = 1 in (x)", 3, 6},
		{"let rec f = 1 in f", 2, 4}, {"if a then b else c", 2, 1}, {"if a then b else (c)", 3, 6}, {"if (a) then b else c", 3, 2}, {"if a then (b) else c", 3, 4},
		{"(1, 2)", 2, 1}, {"(1, (2), 3)", 3, 4}, {"(x : int)", 3, 3}, {"((x) : int)", 3, 2}, {"((x : int))", 4, 4}, {"(((x)) : int)", 4, 3},
		{"(x : (int))", 4, 4}, {"(x : int -> int)", 4, 5}, {"(x : (int * bool) -> int)", 4, 4}, {"(x : int -> (int))", 5, 6}, {"(x : int -> int -> int)", 5, 7},
		{"(x : (int * (bool * int)))", 5, 7}, {"fun x -> (x : int)", 4, 6}, {"f (1 : int) ((2 : bool))", 4, 10},
	} {
		if got, ok := parse.Level(c.s); !ok || got != c.level {
			t.Errorf("Level(%q) = %d, %v, want %d", c.s, got, ok, c.level)
		}
		for _, most := range []int{c.level, c.level + 1, math.MaxInt} {
			if got, _, e := parse.Term(c.s, most); e != api.OK || term.Equal(got, api.Term{}) {
				t.Errorf("Term(%q, %d): %d", c.s, most, e)
			}
		}
		wantWrong(t, c.s, c.level-1, c.token, api.ErrDeep)
		for _, most := range []int{0, -1, math.MinInt} {
			wantWrong(t, c.s, most, 0, api.ErrDeep)
		}
	}
}

func TestDeepIsToldFirst(t *testing.T) {
	for _, c := range []struct {
		s            string
		most, number int
		e            api.Errno
	}{
		{"", 0, 0, api.ErrDeep}, {")", 0, 0, api.ErrDeep}, {"in", 0, 0, api.ErrDeep}, {"fun", 0, 0, api.ErrDeep}, {"(", 0, 0, api.ErrDeep},
		{"fun x ->", 1, 3, api.ErrDeep}, {"fun x -> )", 1, 3, api.ErrDeep}, {"fun", 1, 1, api.ErrForm}, {"fun x", 1, 2, api.ErrForm},
		{"let x =", 1, 3, api.ErrDeep}, {"let x = in", 1, 3, api.ErrDeep}, {"let rec x =", 1, 4, api.ErrDeep}, {"let x = 1 in", 1, 3, api.ErrDeep},
		{"if", 1, 1, api.ErrDeep}, {"if then", 1, 1, api.ErrDeep}, {"(", 1, 1, api.ErrDeep}, {"()", 1, 1, api.ErrDeep}, {"(,", 1, 1, api.ErrDeep},
		{"(x", 1, 1, api.ErrDeep}, {"x (", 1, 2, api.ErrDeep}, {"x )", 1, 1, api.ErrForm}, {"x ) (y)", 1, 1, api.ErrForm}, {"x (y) )", 1, 2, api.ErrDeep},
		{"(x :", 2, 3, api.ErrDeep}, {"(x : )", 2, 3, api.ErrDeep}, {"(x : 1", 2, 3, api.ErrDeep}, {"(x : int", 2, 3, api.ErrDeep}, {"(x : int", 3, 4, api.ErrForm},
		{"(x : (", 3, 4, api.ErrDeep}, {"(x : ()", 3, 4, api.ErrDeep}, {"(x : int ->", 3, 5, api.ErrDeep}, {"(x : int -> )", 3, 5, api.ErrDeep},
		{"(x : int -> )", 4, 5, api.ErrForm}, {"(x : int x", 3, 4, api.ErrForm}, {"(x, :", 2, 3, api.ErrForm}, {"(x,", 2, 3, api.ErrForm},
		{"fun x -> (y", 2, 4, api.ErrDeep}, {"fun x -> y (", 2, 5, api.ErrDeep}, {"fun x -> y )", 2, 4, api.ErrForm}, {"fun (x", 1, 1, api.ErrForm},
	} {
		wantWrong(t, c.s, c.most, c.number, c.e)
	}
}

func TestNinthParts(t *testing.T) {
	eight := "(1" + strings.Repeat(", 1", 7)
	for _, rest := range []string{",", ", 1)", ", )", ",,", ", fun", ", ((x"} {
		wantWrong(t, eight+rest, 2, 16, api.ErrMany)
		wantWrong(t, "f x "+eight+rest, 2, 18, api.ErrMany)
		wantWrong(t, "(2, "+eight+rest, 3, 19, api.ErrMany)
		wantWrong(t, eight+") "+eight+rest, 2, 33, api.ErrMany)
		wantWrong(t, eight+" x"+rest, 2, 17, api.ErrMany)
		wantWrong(t, "(fun x -> x"+strings.Repeat(", 1", 7)+rest, 3, 19, api.ErrMany)
	}
	for _, rest := range []string{"", " x", " : int)", " in", " =", " *"} {
		number := 16
		if rest == " x" {
			number = 17
		}
		wantWrong(t, eight+rest, 2, number, api.ErrForm)
	}
	wantWrong(t, row(9, "(1)"), 3, 32, api.ErrMany)
	wantWrong(t, row(9, "(1)"), 2, 2, api.ErrDeep)
	wantWrong(t, row(20, "1"), 2, 16, api.ErrMany)
	wantWrong(t, row(9, row(9, "1")), 3, 17, api.ErrMany)
	wantWrong(t, row(9, row(8, "1")), 3, 8*18, api.ErrMany)
	if got, _, e := parse.Term(row(8, row(8, "1")), 3); e != api.OK || term.Size(got) != 73 {
		t.Errorf("eight parts of eight: %d", e)
	}
	types := "(1 : (int" + strings.Repeat(" * int", 7)
	for _, rest := range []string{" *", " * int))", " * )", " * x"} {
		wantWrong(t, types+rest, 9, 19, api.ErrMany)
		wantWrong(t, "let x = "+types+rest, 9, 22, api.ErrMany)
	}
	if _, _, e := parse.Term(types+"))", 4); e != api.OK {
		t.Errorf("a tuple's type of eight parts: %d", e)
	}
	wantWrong(t, types+")", 4, 20, api.ErrForm)
	wantWrong(t, types, 4, 19, api.ErrForm)
}

func TestTokensThatNoTextHasEnd(t *testing.T) {
	odd := []api.Token{{}, {Kind: api.End, Text: "x"}, {Kind: -1, Text: "x"}, {Kind: 99, Text: "("}, {Kind: api.Name, Text: "("}, {Kind: api.Name},
		{Kind: api.Number, Text: "x"}, {Kind: api.Number}, {Kind: api.Number, Text: strings.Repeat("9", 400)}, {Kind: api.Word, Text: "("},
		{Kind: api.Sign, Text: "fun"}, {Kind: api.Word}, {Kind: api.Sign, Text: "->"}, {Kind: api.Word, Text: "if"}, {Kind: api.Sign, Text: ":"}, {Kind: api.Sign, Text: ")"}}
	lists := [][]api.Token{nil}
	for range 4 {
		var longer [][]api.Token
		for _, l := range lists {
			for _, x := range odd {
				longer = append(longer, append(slices.Clone(l), x))
			}
		}
		for _, l := range longer {
			if got, n, e := parse.Tokens(l, 3); n < 0 || n > len(l) || e != api.OK && !term.Equal(got, api.Term{}) {
				t.Fatalf("Tokens(%v) = %v, %d, %d", l, got, n, e)
			}
		}
		lists = longer
	}
}

func TestWhatIsHandedInStays(t *testing.T) {
	l := append(tokens(t, "f (x, (y : int -> bool)) (fun z -> z)"), tokens(t, "more")...)
	before := slices.Clone(l)
	got, _, e := parse.Tokens(l[:20], 99)
	other, _, _ := parse.Tokens(l[:20], 99)
	want := term.Copy(got)
	if e != api.OK || !slices.Equal(l, before) {
		t.Error("Tokens changed its list", e)
	}
	var scribble func(t *api.Term)
	scribble = func(t *api.Term) {
		for i := range t.Parts {
			scribble(&t.Parts[i])
		}
		for i := range t.Type.Parts {
			t.Type.Parts[i] = api.Type{Kind: 77}
		}
		*t = api.Term{Kind: 77}
	}
	for i := range got.Parts {
		scribble(&got.Parts[i])
	}
	if !term.Equal(other, want) {
		t.Error("two answers share their memory")
	}
	for i := range other.Parts {
		part := term.Copy(other.Parts[i])
		_ = append(other.Parts[:i:i+1], api.Term{})
		other.Parts[i] = part
	}
	if again, _, _ := parse.Tokens(l[:20], 99); !term.Equal(again, want) || !slices.Equal(l, before) {
		t.Error("a changed answer is answered again")
	}
}

// P6.2, of texts without tokens

func TestTextsWithoutTokens(t *testing.T) {
	for _, c := range []struct {
		s     string
		place int
		e     api.Errno
	}{
		{"$", 0, api.ErrForm}, {"x $", 2, api.ErrForm}, {"fun X -> x", 4, api.ErrForm}, {"x - y", 2, api.ErrForm}, {"\x00", 0, api.ErrForm}, {"x\xff", 1, api.ErrForm},
		{"x é", 2, api.ErrForm}, {") ) $", 4, api.ErrForm}, {"fun fun 007", 8, api.ErrForm}, {"1x", 0, api.ErrForm}, {"f 12_", 2, api.ErrForm},
		{"( " + strings.Repeat("a", 21) + " )", 2, api.ErrLong}, {"f 1234567890", 2, api.ErrLong}, {"1234567890 $", 0, api.ErrLong}, {"$ 1234567890", 0, api.ErrForm},
		{"x\n# $\n  %", 8, api.ErrForm}, {") 1234567890", 2, api.ErrLong}, {"x-", 1, api.ErrForm}, {"-", 0, api.ErrForm},
	} {
		for _, most := range []int{99, 1, 0, -1, math.MinInt, math.MaxInt} {
			got, span, e := parse.Term(c.s, most)
			if e != c.e || span != (api.Span{From: c.place, To: c.place + 1}) || !term.Equal(got, api.Term{}) {
				t.Errorf("Term(%q, %d) = %v, %v, %d, want none, %d, %d", c.s, most, got, span, e, c.place, c.e)
			}
		}
		if level, ok := parse.Level(c.s); ok || level != 0 {
			t.Errorf("Level(%q) = %d, %v", c.s, level, ok)
		}
	}
}

func TestSpansOfWrongTokens(t *testing.T) {
	for _, c := range []struct {
		s        string
		from, to int
		most     int
		e        api.Errno
	}{
		{"if 1 then", 9, 9, 9, api.ErrForm}, {"if 1 then  \n", 12, 12, 9, api.ErrForm}, {"", 0, 0, 9, api.ErrForm}, {" # x", 4, 4, 9, api.ErrForm},
		{"x then y", 2, 6, 9, api.ErrForm}, {"fun x -> else", 9, 13, 9, api.ErrForm}, {"let x -> 1", 6, 8, 9, api.ErrForm}, {"(x : abc)", 5, 8, 9, api.ErrForm},
		{"fun x -> abc", 9, 12, 1, api.ErrDeep}, {"(12345 : int)", 9, 12, 2, api.ErrDeep}, {"fun x ->", 8, 8, 1, api.ErrDeep}, {row(9, "1"), 23, 24, 9, api.ErrMany},
	} {
		got, span, e := parse.Term(c.s, c.most)
		if e != c.e || span != (api.Span{From: c.from, To: c.to}) || !term.Equal(got, api.Term{}) {
			t.Errorf("Term(%q, %d) = %v, %v, %d, want none, %d to %d, %d", c.s, c.most, got, span, e, c.from, c.to, c.e)
		}
	}
}

// P6.3

func TestLevelOfWhatIsNone(t *testing.T) {
	for _, s := range []string{"", "(", "x )", "fun x ->", "(x : )", "let x = 1", "if 1 then 2", row(9, "1"), "(1 : (int" + strings.Repeat(" * int", 8) + "))", "x $"} {
		if level, ok := parse.Level(s); ok || level != 0 {
			t.Errorf("Level(%q) = %d, %v", s, level, ok)
		}
	}
}

// P6.4, and P6.1 to P6.3 by a second way

// second reads as the document says it, by calls within calls; what is wrong is a panic.
type second struct {
	l        []api.Token // with an End
	at, most int
	level    int // the greatest one so far
}

type wrong struct {
	number int
	e      api.Errno
}

func (s *second) fail(e api.Errno) { panic(wrong{s.at, e}) }

func (s *second) is(text string) bool {
	return s.l[s.at].Text == text
}

func (s *second) need(text string) {
	if !s.is(text) {
		s.fail(api.ErrForm)
	}
	s.at++
}

func (s *second) enter(level int) {
	if level > s.most {
		s.fail(api.ErrDeep)
	}
	s.level = max(s.level, level)
}

func (s *second) name() string {
	if s.l[s.at].Kind != api.Name {
		s.fail(api.ErrForm)
	}
	s.at++
	return s.l[s.at-1].Text
}

// extent is the bytes of the tokens from one on, up to the last one that was read.
func (s *second) extent(first int) api.Span {
	return api.Span{From: s.l[first].At.From, To: s.l[s.at-1].At.To}
}

func (s *second) expression(level int) api.Term {
	s.enter(level)
	first := s.at
	var t api.Term
	switch {
	case s.is("fun"):
		s.at++
		t.Kind, t.Name = api.Lam, s.name()
		s.need("->")
		t.Parts = []api.Term{s.expression(level + 1)}
	case s.is("let"):
		s.at++
		t.Kind = api.Let
		if s.is("rec") {
			s.at++
			t.Kind = api.Rec
		}
		t.Name = s.name()
		s.need("=")
		value := s.expression(level + 1)
		s.need("in")
		t.Parts = []api.Term{value, s.expression(level + 1)}
	case s.is("if"):
		s.at++
		condition := s.expression(level + 1)
		s.need("then")
		yes := s.expression(level + 1)
		s.need("else")
		t.Kind, t.Parts = api.If, []api.Term{condition, yes, s.expression(level + 1)}
	default:
		return s.application(level)
	}
	t.At = s.extent(first)
	return t
}

func (s *second) application(level int) api.Term {
	first := s.at
	t, ok := s.atom(level)
	if !ok {
		s.fail(api.ErrForm)
	}
	for {
		next, ok := s.atom(level)
		if !ok {
			return t
		}
		t = api.Term{Kind: api.App, Parts: []api.Term{t, next}, At: s.extent(first)}
	}
}

func (s *second) atom(level int) (api.Term, bool) {
	x := s.l[s.at]
	switch {
	case x.Kind == api.Name:
		s.at++
		return api.Term{Kind: api.Var, Name: x.Text, At: x.At}, true
	case x.Kind == api.Number:
		s.at++
		n, _ := strconv.Atoi(x.Text)
		return api.Term{Kind: api.Int, N: n, At: x.At}, true
	case x.Text == "true" || x.Text == "false":
		s.at++
		return api.Term{Kind: api.Bool, N: 5 - len(x.Text), At: x.At}, true
	case x.Text == "(":
		return s.brackets(level), true
	}
	return api.Term{}, false
}

func (s *second) brackets(level int) api.Term {
	first := s.at
	s.need("(")
	parts := []api.Term{s.expression(level + 1)}
	if s.is(":") {
		s.at++
		t := s.annotation(level + 2)
		s.need(")")
		return api.Term{Kind: api.Ann, Type: t, Parts: parts, At: s.extent(first)}
	}
	for s.is(",") {
		if len(parts) == 8 {
			s.fail(api.ErrMany)
		}
		s.at++
		parts = append(parts, s.expression(level+1))
	}
	s.need(")")
	if len(parts) == 1 {
		return parts[0]
	}
	return api.Term{Kind: api.Tuple, Parts: parts, At: s.extent(first)}
}

func (s *second) annotation(level int) api.Type {
	s.enter(level)
	t := s.annotationPart(level)
	if !s.is("->") {
		return t
	}
	s.at++
	return api.Type{Kind: api.TArrow, Parts: []api.Type{t, s.annotation(level + 1)}}
}

func (s *second) annotationPart(level int) api.Type {
	s.at++
	switch s.l[s.at-1].Text {
	case "int":
		return api.Type{Kind: api.TInt}
	case "bool":
		return api.Type{Kind: api.TBool}
	case "(":
		parts := []api.Type{s.annotation(level + 1)}
		for s.is("*") {
			if len(parts) == 8 {
				s.fail(api.ErrMany)
			}
			s.at++
			parts = append(parts, s.annotation(level+1))
		}
		s.need(")")
		if len(parts) == 1 {
			return parts[0]
		}
		return api.Type{Kind: api.TTuple, Parts: parts}
	}
	s.at--
	s.fail(api.ErrForm)
	return api.Type{}
}

func (s *second) answer() (t api.Term, n int, e api.Errno) {
	defer func() {
		if w, ok := recover().(wrong); ok {
			t, n, e = api.Term{}, w.number, w.e
		}
	}()
	t = s.expression(1)
	if s.l[s.at].Kind != api.End {
		s.fail(api.ErrForm)
	}
	return t, s.at + 1, api.OK
}

// check holds what is read of a text against what the second reader reads.
func check(t *testing.T, s string) {
	t.Helper()
	l := tokens(t, s)
	free := second{l: l, most: math.MaxInt}
	_, _, freeE := free.answer()
	for most := range 6 {
		reader := second{l: l, most: most}
		want, wantN, wantE := reader.answer()
		got, n, e := parse.Tokens(l, most)
		if n != wantN || e != wantE || !term.Equal(got, want) {
			t.Fatalf("Tokens(%q, %d) = %v, %d, %d, want %v, %d, %d", s, most, got, n, e, want, wantN, wantE)
		}
		if (e == api.OK) != (freeE == api.OK && free.level <= most) {
			t.Fatalf("Tokens(%q, %d): %d, where the level is %d", s, most, e, free.level)
		}
		if e == api.OK && (!term.Nested(got) || !term.Right(got)) {
			t.Fatalf("Tokens(%q, %d) = %v, which isn't right, or not nested", s, most, got)
		}
	}
	level, ok := parse.Level(s)
	if ok != (freeE == api.OK) || ok && level != free.level || !ok && level != 0 {
		t.Fatalf("Level(%q) = %d, %v, want %d, %v", s, level, ok, free.level, freeE == api.OK)
	}
}

// eachRow tells all lists of up to so many of these, as texts.
func eachRow(most int, of string, visit func(s string)) {
	rows := []string{""}
	for range most {
		var longer []string
		for _, s := range rows {
			for _, word := range strings.Split(of, " | ") {
				longer = append(longer, s+" "+word)
			}
		}
		for _, s := range longer {
			visit(s)
		}
		rows = longer
	}
}

func TestAllShortTexts(t *testing.T) {
	eachRow(4, "x | 1 | ( | ) | , | : | int | fun | -> | let | rec | = | in | if | then | else", func(s string) { check(t, s) })
	eachRow(5, "x | ( | ) | , | : int | fun x -> | let f = | in | if | then", func(s string) { check(t, s) })
	eachRow(7, "x | ( | ) | , | : int", func(s string) { check(t, s) })
	eachRow(6, "f x | ( | ) | let rec f = | in | else", func(s string) { check(t, s) })
}

func TestTextsWithAnnotations(t *testing.T) {
	eachRow(6, "int | ( | ) | * | -> | x", func(s string) { check(t, "(true :"+s) })
	eachRow(3, "(x : int) | (fun x -> x : int -> bool) | ((x) : (int * (bool) -> int)) | ( | ) | , | fun y ->", func(s string) { check(t, s) })
	nearlyNine := "( (1), 2, (3, 4), 5 5, (6 : int), fun x -> 7, 8"
	eachRow(4, "x | , | ) | ( | : int", func(s string) { check(t, nearlyNine+s) })
}

// wantDeep wants of a text with deep levels, or more, as many terms, and as high a level.
func wantDeep(t *testing.T, what, s string, size, level int) {
	t.Helper()
	got, _, e := parse.Term(s, level)
	if e != api.OK || term.Size(got) != size || !term.Nested(got) {
		t.Errorf("%s: %d, of size %d", what, e, term.Size(got))
	}
	if _, _, e := parse.Term(s, level-1); e != api.ErrDeep {
		t.Errorf("%s: up to %d: %d", what, level-1, e)
	}
}

func TestDeepTexts(t *testing.T) {
	defer debug.SetMaxStack(debug.SetMaxStack(4 << 20))
	many := func(s string) string { return strings.Repeat(s, deep) }
	wantDeep(t, "brackets", many("(")+"x"+many(")"), 1, deep+1)
	wantDeep(t, "functions", many("fun x -> ")+"x", deep+1, deep+1)
	wantDeep(t, "bodies", many("let x = 1 in ")+"x", 2*deep+1, deep+1)
	wantDeep(t, "values", many("let rec x = ")+"x"+many(" in x"), 2*deep+1, deep+1)
	wantDeep(t, "conditions", many("if ")+"x"+many(" then x else x"), 3*deep+1, deep+1)
	wantDeep(t, "others", many("if x then x else ")+"x", 3*deep+1, deep+1)
	wantDeep(t, "tuples", many("(x, ")+"x"+many(")"), 2*deep+1, deep+1)
	wantDeep(t, "arguments", many("f (")+"x"+many(")"), 2*deep+1, deep+1)
	wantDeep(t, "annotations", many("(")+"x"+many(" : int)"), deep+1, deep+2)
	wantDeep(t, "atoms", "f"+many(" x"), 2*deep+1, 1)
	wantDeep(t, "types", "(x : "+many("(")+"int"+many(")")+")", 2, deep+3)
	wantDeep(t, "arrows", "(x : "+many("int -> ")+"int)", 2, deep+3)
	for what, s := range map[string]string{
		"brackets": many("("), "ends": many(")"), "functions": many("fun x -> "), "values": many("let x = "), "conditions": many("if "), "tuples": many("(x, "),
		"bodies": many("let x = 1 in "), "types": "(x : " + many("("), "arrows": "(x : " + many("int -> "),
	} {
		if _, _, e := parse.Term(s, math.MaxInt); e != api.ErrForm {
			t.Errorf("%s without an end: %d", what, e)
		}
	}
	if level, ok := parse.Level(many("(") + "(x : int -> int)" + many(")")); !ok || level != deep+4 {
		t.Errorf("Level of a deep text: %d, %v", level, ok)
	}
}
