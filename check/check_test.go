package check_test

import (
	"math"
	"math/rand/v2"
	"runtime/debug"
	"slices"
	"strconv"
	"strings"
	"testing"

	"pangram/api"
	"pangram/check"
	"pangram/count"
	"pangram/derive"
	"pangram/eqs"
	"pangram/infer"
	"pangram/mus"
	"pangram/parse"
	"pangram/pretty"
	"pangram/scheme"
	"pangram/scope"
	"pangram/signature"
	"pangram/solve"
	"pangram/span"
	"pangram/term"
	"pangram/types"
)

// wide is limits that are as great as may be.
func wide() api.Limits {
	return api.Limits{Bytes: api.MaxLimit, Depth: api.MaxLimit, Eqs: api.MaxLimit}
}

// within is wide limits, but for the one that a function sets.
func within(set func(l *api.Limits)) api.Limits {
	l := wide()
	set(&l)
	return l
}

func bytes(n int) api.Limits { return within(func(l *api.Limits) { l.Bytes = n }) }

func depth(n int) api.Limits { return within(func(l *api.Limits) { l.Depth = n }) }

func equations(n int) api.Limits { return within(func(l *api.Limits) { l.Eqs = n }) }

func at(from, to int) api.Span { return api.Span{From: from, To: to} }

func typed(text string) api.Verdict { return api.Verdict{Kind: api.VScheme, Scheme: text} }

func syntax(from, to int) api.Verdict { return api.Verdict{Kind: api.VSyntax, At: at(from, to)} }

func unbound(from, to int) api.Verdict { return api.Verdict{Kind: api.VScope, At: at(from, to)} }

func hit(limit int) api.Verdict { return api.Verdict{Kind: api.VLimit, Limit: limit} }

func wrong(core []int, l ...api.Span) api.Verdict {
	return api.Verdict{Kind: api.VType, Core: core, Slices: l}
}

// read is the term of a text.
func read(t *testing.T, s string) api.Term {
	t.Helper()
	x, _, e := parse.Term(s, math.MaxInt)
	if e != api.OK {
		t.Fatalf("no term: %.80q", s)
	}
	return x
}

// same tells whether two verdicts are, without the package's own help.
func same(a, b api.Verdict) bool {
	return a.Kind == b.Kind && a.Scheme == b.Scheme && a.At == b.At && a.Limit == b.Limit && slices.Equal(a.Core, b.Core) && slices.Equal(a.Slices, b.Slices)
}

func sameEqs(a, b []api.Eq) bool {
	return slices.EqualFunc(a, b, func(x, y api.Eq) bool {
		return types.Same(x.L, y.L) && types.Same(x.R, y.R) && x.At == y.At
	})
}

// want wants a verdict, steps within their bound, and the same again.
func want(t *testing.T, s string, l api.Limits, want api.Verdict) {
	t.Helper()
	v := check.Check(s, l)
	if !same(v, want) {
		t.Errorf("%.80q under %v: %+v, want %+v", s, l, v, want)
	}
	if v.Steps < 1 || v.Steps > count.Bound(len(s), l.Eqs) {
		t.Errorf("%.80q under %v: %d steps", s, l, v.Steps)
	}
	if again := check.Check(s, l); !same(again, v) || again.Steps != v.Steps {
		t.Errorf("%.80q under %v: %+v, and then %+v", s, l, v, again)
	}
}

// limits

func TestRight(t *testing.T) {
	numbers := map[int]bool{
		math.MinInt: false, -1: false, 0: false, 1: true, 2: true, 4096: true, 4097: true,
		1<<30 - 1: true, 1 << 30: true, 1<<30 + 1: false, math.MaxInt: false,
	}
	for a, aRight := range numbers {
		for b, bRight := range numbers {
			for c, cRight := range numbers {
				l := api.Limits{Bytes: a, Depth: b, Eqs: c}
				if got := check.Right(l); got != (aRight && bRight && cRight) {
					t.Errorf("%v: %t", l, got)
				}
			}
		}
	}
}

func TestLimitsThatArentRight(t *testing.T) {
	for _, n := range []int{math.MinInt, -1, 0, 1<<30 + 1, math.MaxInt} {
		for _, l := range []api.Limits{bytes(n), depth(n), equations(n), {Bytes: n, Depth: n, Eqs: n}} {
			for _, s := range []string{"", "1", "x", "1 true", "$", "((1))"} {
				if v := check.Check(s, l); v.Steps != 0 || !same(v, api.Verdict{}) {
					t.Errorf("%q under %v: %+v", s, l, v)
				}
				if got := check.Equations(s, l); len(got) != 0 {
					t.Errorf("equations of %q under %v: %v", s, l, got)
				}
			}
		}
	}
}

// verdicts

func TestTypes(t *testing.T) {
	for s, scheme := range map[string]string{
		"1":                                     "int",
		"true":                                  "bool",
		"fun x -> x":                            "'a -> 'a",
		"let i = fun x -> x in (i 1, i true)":   "(int * bool)",
		"let rec f = fun x -> f x in f":         "'a -> 'b",
		"let rec f = f in f":                    "'a",
		"fun f -> fun x -> f (f x)":             "('a -> 'a) -> 'a -> 'a",
		"fun x -> let y = fun z -> (x, z) in y": "'a -> 'b -> ('a * 'b)",
		"(fun x -> x : bool -> bool)":           "bool -> bool",
		"if true then 1 else 2":                 "int",
		" # a remark, 1 true\n\t(1, (true))\r#": "(int * bool)",
	} {
		want(t, s, wide(), typed(scheme))
	}
}

func TestSyntax(t *testing.T) {
	for s, v := range map[string]api.Verdict{
		"":                              syntax(0, 0),
		" \n":                           syntax(2, 2),
		"#1":                            syntax(2, 2),
		"if 1 then":                     syntax(9, 9),
		"1 )":                           syntax(2, 3),
		"fun -> x":                      syntax(4, 6),
		"fun fun -> x":                  syntax(4, 7),
		"let x 1 in x":                  syntax(6, 7),
		"(x : y)":                       syntax(5, 6),
		"$":                             syntax(0, 1),
		"x - 1":                         syntax(2, 3),
		"X":                             syntax(0, 1),
		"x \xff":                        syntax(2, 3),
		"(007, x":                       syntax(1, 2),
		"1 1234567890":                  syntax(2, 3),
		"y abcdefghijabcdefghijk":       syntax(2, 3),
		"(1, 2, 3, 4, 5, 6, 7, 8, 9)":   syntax(23, 24),
		"(1:(" + nine("int", "*") + ")": syntax(35, 36),
	} {
		want(t, s, wide(), v)
	}
}

// nine is nine of a text, with another one between.
func nine(s, between string) string {
	return strings.Join(slices.Repeat([]string{s}, 9), between)
}

func TestScope(t *testing.T) {
	for s, v := range map[string]api.Verdict{
		"x":                          unbound(0, 1),
		"fun x -> y":                 unbound(9, 10),
		"(y, x)":                     unbound(1, 2),
		"let x = x in x":             unbound(8, 9),
		"let rec x = y in z":         unbound(12, 13),
		"fun x -> (x, fun y -> x) y": unbound(25, 26),
		"(fun x -> x)\n xyz":         unbound(14, 17),
	} {
		want(t, s, wide(), v)
	}
}

func TestBlame(t *testing.T) {
	for s, v := range map[string]api.Verdict{
		"1 true":                        wrong([]int{0, 2}, at(0, 6)),
		"fun x -> x x":                  wrong([]int{0, 1, 2}, at(9, 12)),
		"(1 : bool)":                    wrong([]int{0, 1}, at(1, 2)),
		"fun f -> (f 1, f true)":        wrong([]int{0, 1, 2, 3, 4, 5}, at(10, 13), at(15, 21)),
		"if 1 then 1 else 2":            wrong([]int{0, 3}, at(3, 4)),
		"if true then 1 else false":     wrong([]int{1, 2, 4, 5}, at(13, 14), at(20, 25)),
		"let f = fun x -> x 1 in f 2":   wrong([]int{4, 6, 7, 8, 9, 10}, at(8, 20), at(24, 27)),
		"(1 true, if 1 then 1 else 2)":  wrong([]int{3, 6}, at(12, 13)),
		"fun x ->\n (x 1,\n #\n x) 2":   wrong([]int{4, 6}, at(10, 24)),
		"let u = 1 2 in 3":              wrong([]int{0, 2}, at(8, 11)),
		"(fun x -> x : bool)":           wrong([]int{1, 2}, at(1, 11)),
		"let y = 1 in (y, y true, 1 2)": wrong([]int{7, 9}, at(25, 28)),
	} {
		want(t, s, wide(), v)
	}
}

// limits that are hit

func TestBytes(t *testing.T) {
	for _, s := range []string{"1", "fun x -> x", "1 true", "x", "$", "((1", strings.Repeat(" ", 99), "(#\xc2\xab\n1)"} {
		plain := check.Check(s, wide())
		want(t, s, bytes(len(s)), plain)
		want(t, s, bytes(len(s)+1), plain)
		want(t, s+"\n", bytes(len(s)), hit(api.LBytes))
		if len(s) > 1 {
			want(t, s, bytes(len(s)-1), hit(api.LBytes))
			want(t, s, api.Limits{Bytes: 1, Depth: 1, Eqs: 1}, hit(api.LBytes))
		}
	}
	want(t, "", bytes(1), syntax(0, 0))
}

// nested is texts of a level, by how they come to it; each is of the type int, or a function to it.
func nested(level int) map[string]string {
	n := level - 1
	l := map[string]string{
		"brackets":  strings.Repeat("(", n) + "1" + strings.Repeat(")", n),
		"functions": strings.Repeat("fun x -> ", n) + "1",
		"let":       strings.Repeat("let x = ", n) + "1" + strings.Repeat(" in 1", n),
		"let, in":   strings.Repeat("let x = 1 in ", n) + "1",
		"if":        strings.Repeat("if true then 1 else ", n) + "1",
		"atoms":     strings.Repeat("(fun x -> x) (", n) + "1" + strings.Repeat(")", n),
	}
	if level >= 4 {
		l["a type"] = "let rec f = fun x -> f x in " + "(f : " + strings.Repeat("int -> ", level-4) + "int)"
	}
	return l
}

func TestLevels(t *testing.T) {
	for _, level := range []int{2, 3, 4, 5, 9, 50} {
		for what, s := range nested(level) {
			found, _ := parse.Level(s)
			plain := check.Check(s, wide())
			if found < level || plain.Kind == api.VSyntax || plain.Kind == api.VLimit {
				t.Fatalf("%s: a text of the level %d: %+v", what, found, plain)
			}
			want(t, s, depth(found), plain)
			want(t, s, depth(found+1), plain)
			want(t, s, depth(found-1), hit(api.LDepth))
			want(t, s, depth(1), hit(api.LDepth))
		}
	}
	for s, level := range map[string]int{"1": 1, "1 1": 1, "(1)": 2, "fun x -> x": 2, "(1 : int)": 3, "(1 : (int))": 4, "(1 : int -> int -> int)": 5} {
		want(t, s, depth(level), check.Check(s, wide()))
		if level > 1 {
			want(t, s, depth(level-1), hit(api.LDepth))
		}
	}
}

func TestTooDeepAndWrong(t *testing.T) {
	for _, c := range []struct {
		what, text string
		level      int
		want       api.Verdict
	}{
		{"further on", "((1) ) )", 2, hit(api.LDepth)},
		{"further on, not too deep", "((1) ) )", 3, syntax(7, 8)},
		{"in what is too deep", "((1 =", 2, hit(api.LDepth)},
		{"ahead", ") ((1))", 1, syntax(0, 1)},
		{"ahead, behind what isn't too deep", "(1) = ((1))", 2, syntax(4, 5)},
		{"the token that is too deep", "fun x -> )", 1, hit(api.LDepth)},
		{"that token, not too deep", "fun x -> )", 2, syntax(9, 10)},
		{"the end, that is too deep", "fun x ->", 1, hit(api.LDepth)},
		{"the end, not too deep", "fun x ->", 2, syntax(8, 8)},
		{"a byte, further on", "((1)) $", 1, syntax(6, 7)},
		{"a byte, ahead", "$ ((1))", 1, syntax(0, 1)},
		{"a long name, further on", "((1)) " + strings.Repeat("a", 21), 1, syntax(6, 7)},
		{"a ninth part, further on", "((1), 2, 3, 4, 5, 6, 7, 8, 9)", 2, hit(api.LDepth)},
		{"a ninth part, not too deep", "((1), 2, 3, 4, 5, 6, 7, 8, 9)", 3, syntax(25, 26)},
		{"a ninth part, ahead", "(1, 2, 3, 4, 5, 6, 7, 8, (9))", 2, syntax(23, 24)},
		{"a type that is too deep", "(1 : )", 2, hit(api.LDepth)},
		{"a type that is none", "(1 : )", 3, syntax(5, 6)},
		{"a name, further on", "((1)) x", 1, hit(api.LDepth)},
		{"a name, not too deep", "((1)) x", 3, unbound(6, 7)},
		{"without a type", "(1) (1)", 1, hit(api.LDepth)},
	} {
		if v := check.Check(c.text, depth(c.level)); !same(v, c.want) {
			t.Errorf("%s: %q up to %d: %+v", c.what, c.text, c.level, v)
		}
	}
}

// A name is told ahead of the limit of equations, and of types.
func TestFreeNamesComeFirst(t *testing.T) {
	const many = 5000
	pairs := "(" + strings.Repeat("(1, ", many) + "x" + strings.Repeat(")", many) + ")"
	place := strings.IndexByte(pairs, 'x')
	want(t, pairs, wide(), unbound(place, place+1))
	want(t, pairs, equations(1), unbound(place, place+1))
	want(t, strings.Replace(pairs, "x", "1", 1), wide(), hit(api.LEqs))
	want(t, "(1 true, x)", wide(), unbound(9, 10))
	want(t, "(1 true, x)", equations(1), unbound(9, 10))
	want(t, "fun x -> (x x) y", equations(1), unbound(15, 16))
	want(t, "fun x -> (x x) y", depth(1), hit(api.LDepth))
}

// functions is a text of n equations: functions, one within the other.
func functions(n int) string {
	return strings.Repeat("fun x->", n-1) + "1"
}

// tuples is a text of n equations: pairs, one within the other. A wrong one has no type.
func tuples(n int, isWrong bool) string {
	last := "1"
	if isWrong {
		last, n = "(1 1)", n-2
	}
	if n%2 == 0 {
		last, n = "(fun x -> "+last+")", n-1
	}
	return strings.Repeat("(1,", n/2) + last + strings.Repeat(")", n/2)
}

func TestEquationsThatMayBe(t *testing.T) {
	for _, n := range []int{1, 2, 3, 4, 7, 8, 100, 101} {
		for _, s := range []string{functions(n), tuples(n, false)} {
			plain := check.Check(s, wide())
			if l := check.Equations(s, wide()); len(l) != n || plain.Kind != api.VScheme {
				t.Fatalf("%d equations, not %d: %.80q", len(l), n, s)
			}
			want(t, s, equations(n), plain)
			want(t, s, equations(n+1), plain)
			if n > 1 {
				want(t, s, equations(n-1), hit(api.LEqs))
				want(t, s, equations(1), hit(api.LEqs))
			}
		}
	}
	for _, n := range []int{3, 4, 100, 101} {
		s := tuples(n, true)
		plain := check.Check(s, wide())
		if l := check.Equations(s, wide()); len(l) != n || plain.Kind != api.VType {
			t.Fatalf("%d equations, not %d: %.80q", len(l), n, s)
		}
		want(t, s, equations(n), plain)
		want(t, s, equations(n-1), hit(api.LEqs))
	}
	// What a binder keeps comes once more: 1, 2 kept, and of i i 1 and twice 3.
	doubled := "let i = fun x -> x in i i"
	want(t, doubled, equations(10), typed("'a -> 'a"))
	want(t, doubled, equations(9), hit(api.LEqs))
}

func TestMaxEqs(t *testing.T) {
	// Functions as many have a type that is too great.
	for _, n := range []int{4094, 4095, 4096, 4097, 4098, 5000} {
		for _, most := range []int{4095, 4096, 4097, api.MaxLimit} {
			limit := api.LEqs
			if n <= min(most, 4096) {
				limit = api.LSize
			}
			want(t, functions(n), equations(most), hit(limit))
		}
	}
	// Many equations, a small type.
	for n, v := range map[int]api.Verdict{4095: typed("int"), 4096: typed("int"), 4097: hit(api.LEqs), 1 << 16: hit(api.LEqs)} {
		for _, most := range []int{4096, api.MaxLimit} {
			want(t, small(n), equations(most), v)
		}
	}
	// Many equations without a solution.
	for n, kind := range map[int]int{4095: api.VType, 4096: api.VType, 4097: api.VLimit} {
		if v := check.Check(tuples(n, true), wide()); v.Kind != kind {
			t.Errorf("%d equations without a solution: %+v", n, v)
		}
	}
	// What doubles again and again.
	doubled := "fun x -> x"
	for range 60 {
		doubled = "let f = " + doubled + " in f f"
	}
	want(t, doubled, wide(), hit(api.LEqs))
}

// small is a text of n equations whose type is int.
func small(n int) string {
	// let x = 1 in .. has two more than what it stands around.
	s := "1"
	if n%2 == 0 {
		s, n = "let f = fun x -> 1 in 1", n-3
	}
	return strings.Repeat("let x = 1 in ", (n-1)/2) + s
}

// great is a text whose type is of pairs that double: of 2^(n+1) - 1 nodes, in some few equations.
func great(n int, inside func(name string) string) string {
	s := inside("x" + strconv.Itoa(n))
	for i := n; i > 1; i-- {
		before := "x" + strconv.Itoa(i-1)
		s = "(fun x" + strconv.Itoa(i) + " -> " + s + ") (" + before + ", " + before + ")"
	}
	return "(fun x1 -> " + s + ") (1, 1)"
}

func TestSizes(t *testing.T) {
	whole := func(name string) string { return name }
	for _, c := range []struct {
		what, text string
		size       int
	}{
		{"4095 nodes", great(11, whole), 4095},
		{"4096 nodes", great(10, func(x string) string { return "(" + x + ", " + x + ", 1)" }), 4096},
		{"4097 nodes", great(10, func(x string) string { return "(" + x + ", " + x + ", 1, true)" }), 4097},
		{"4097 nodes, a function", great(11, func(x string) string { return "fun y -> " + x }), 4097},
		{"4096 nodes, with variables", "fun y -> " + great(9, func(x string) string {
			return "(" + x + ", " + x + ", fun a -> fun b -> " + x + ", " + x + ", 1)"
		}), 2 + 1 + 4*1023 + 4 + 1},
		{"8191 nodes", great(12, whole), 8191},
		{"2^41 nodes", great(40, whole), 1 << 41},
	} {
		v := check.Check(c.text, wide())
		l := check.Equations(c.text, wide())
		if len(l) == 0 || len(l) > 400 {
			t.Fatalf("%s: %d equations", c.what, len(l))
		}
		if c.size > api.MaxSize {
			want(t, c.text, wide(), hit(api.LSize))
			want(t, c.text, equations(len(l)), hit(api.LSize))
			want(t, c.text, equations(len(l)-1), hit(api.LEqs))
			continue
		}
		u, e := signature.Parse(v.Scheme)
		if v.Kind != api.VScheme || e != api.OK || types.Size(u) != c.size {
			t.Errorf("%s: %.80v, a type of %d nodes", c.what, v, types.Size(u))
		}
	}
	// Types within the term may be of any size, and what has none isn't too great.
	want(t, great(40, func(string) string { return "1" }), wide(), typed("int"))
	if v := check.Check(great(40, func(x string) string { return "1 " + x }), wide()); v.Kind != api.VType {
		t.Errorf("great, and wrong: %+v", v)
	}
}

// steps

func TestSteps(t *testing.T) {
	long := strings.Repeat("# a remark\n", 1<<14)
	ann := "(1 : " + strings.Repeat("int -> ", 1<<12) + "int)"
	for what, c := range map[string]struct {
		text string
		in   api.Limits
		kind int
	}{
		"the empty text":                  {"", api.Limits{Bytes: 1, Depth: 1, Eqs: 1}, api.VSyntax},
		"a byte":                          {"1", api.Limits{Bytes: 1, Depth: 1, Eqs: 1}, api.VScheme},
		"a name":                          {"x", api.Limits{Bytes: 1, Depth: 1, Eqs: 1}, api.VScope},
		"a wrong byte":                    {"$", api.Limits{Bytes: 1, Depth: 1, Eqs: 1}, api.VSyntax},
		"a long one":                      {long + "1", equations(1), api.VScheme},
		"a long one, wrong":               {long, equations(1), api.VSyntax},
		"a long one, of names":            {strings.Repeat("x ", 1<<16), equations(1), api.VScope},
		"a long one, without a type":      {long + "1 1", equations(3), api.VType},
		"too many bytes":                  {"11", api.Limits{Bytes: 1, Depth: 1, Eqs: 1}, api.VLimit},
		"far too many bytes":              {long, bytes(1), api.VLimit},
		"too deep":                        {"(1)", depth(1), api.VLimit},
		"far too deep":                    {strings.Repeat("(", 1<<16), depth(1), api.VLimit},
		"too many equations":              {"1 1", equations(2), api.VLimit},
		"far too many":                    {functions(1 << 12), equations(1), api.VLimit},
		"too great a type":                {great(20, func(x string) string { return x }), wide(), api.VLimit},
		"a long annotation":               {ann, equations(3), api.VType},
		"a long annotation, fit":          {"let rec f = f in " + strings.Replace(ann, "1", "f", 1), wide(), api.VLimit},
		"a long annotation, once more":    {"let a = fun x -> " + ann + " in (a a, a a, a a)", equations(56), api.VType},
		"many equations":                  {small(4096), equations(4096), api.VScheme},
		"many equations without a type":   {tuples(4096, true), equations(4096), api.VType},
		"equations to the limit, wrong":   {tuples(7, true), equations(7), api.VType},
		"equations to the limit, a tuple": {"(1, 1, 1, 1, 1, 1, 1, 1)", equations(9), api.VScheme},
	} {
		v := check.Check(c.text, c.in)
		if v.Kind != c.kind {
			t.Errorf("%s: %.80v", what, v)
		}
		if v.Steps < 1 || v.Steps > count.Bound(len(c.text), c.in.Eqs) {
			t.Errorf("%s: %d steps", what, v.Steps)
		}
		for range 3 {
			if again := check.Check(c.text, c.in); again.Steps != v.Steps || !same(again, v) {
				t.Errorf("%s: %.80v, and then %.80v", what, v, again)
			}
		}
	}
}

// equations

func TestEquations(t *testing.T) {
	tooGreat := great(20, func(x string) string { return x })
	for s, kind := range map[string]int{
		"1": api.VScheme, "fun x -> x": api.VScheme, "let i = fun x -> x in i i": api.VScheme, "(1 : int)": api.VScheme,
		"1 true": api.VType, "fun x -> x x": api.VType, "(1 : bool)": api.VType, "if 1 then 1 else 2": api.VType,
		tooGreat: api.VLimit,
	} {
		expected, e := eqs.Of(read(t, s), math.MaxInt)
		if e != api.OK {
			t.Fatalf("no equations: %q", s)
		}
		got := check.Equations(s, wide())
		if v := check.Check(s, wide()); v.Kind != kind || !sameEqs(got, expected) {
			t.Errorf("%q: %+v, %v", s, v, got)
		}
		if got := check.Equations(s, equations(len(expected))); !sameEqs(got, expected) {
			t.Errorf("%q, just as many: %v", s, got)
		}
	}
	for s, l := range map[string]api.Limits{
		"": wide(), "$": wide(), "if 1 then": wide(), "x": wide(), "fun x -> y": wide(), "(1 true, y)": wide(),
		"1 ": bytes(1), "1 true": bytes(5), "(1)": depth(1), "(1 true)": depth(1), "1 1": equations(2), "fun x -> x": equations(1),
		functions(4097): wide(), tooGreat: equations(50), "((1) )=": depth(2),
	} {
		if got := check.Equations(s, l); len(got) != 0 {
			t.Errorf("%.80q under %v: %v", s, l, got)
		}
	}
}

// the same verdict

func TestSame(t *testing.T) {
	full := func() api.Verdict {
		return api.Verdict{Kind: 5, Scheme: "int", At: at(1, 2), Limit: 3, Core: []int{4, 6}, Slices: []api.Span{at(1, 2), at(3, 4)}, Steps: 7}
	}
	if !check.Same(full(), full()) || !check.Same(api.Verdict{}, api.Verdict{}) {
		t.Error("the same ones aren't")
	}
	for what, change := range map[string]func(v *api.Verdict){
		"Kind":           func(v *api.Verdict) { v.Kind = 1 },
		"Scheme":         func(v *api.Verdict) { v.Scheme = "bool" },
		"From":           func(v *api.Verdict) { v.At.From = 0 },
		"To":             func(v *api.Verdict) { v.At.To = 3 },
		"Limit":          func(v *api.Verdict) { v.Limit = 4 },
		"a number":       func(v *api.Verdict) { v.Core[1] = 5 },
		"a number less":  func(v *api.Verdict) { v.Core = v.Core[:1] },
		"a number more":  func(v *api.Verdict) { v.Core = append(v.Core, 7) },
		"numbers, about": func(v *api.Verdict) { v.Core[0], v.Core[1] = v.Core[1], v.Core[0] },
		"no numbers":     func(v *api.Verdict) { v.Core = nil },
		"a slice":        func(v *api.Verdict) { v.Slices[0].From = 0 },
		"a slice's end":  func(v *api.Verdict) { v.Slices[1].To = 5 },
		"a slice less":   func(v *api.Verdict) { v.Slices = v.Slices[1:] },
		"a slice more":   func(v *api.Verdict) { v.Slices = append(v.Slices, at(5, 6)) },
		"slices, about":  func(v *api.Verdict) { v.Slices[0], v.Slices[1] = v.Slices[1], v.Slices[0] },
		"no slices":      func(v *api.Verdict) { v.Slices = nil },
	} {
		v := full()
		change(&v)
		if check.Same(full(), v) || check.Same(v, full()) || !check.Same(v, v) {
			t.Errorf("%s is unlike", what)
		}
	}
	steps, empty := full(), api.Verdict{Core: []int{}, Slices: []api.Span{}}
	steps.Steps = -1
	if !check.Same(full(), steps) || !check.Same(empty, api.Verdict{}) || !check.Same(api.Verdict{}, empty) {
		t.Error("steps, or lists without elements, count")
	}
}

// A second way

// firstFree is the span of a term's first Var that is free, by calls within calls.
func firstFree(x api.Term, around ...string) (api.Span, bool) {
	if x.Kind == api.Var {
		return x.At, !slices.Contains(around, x.Name)
	}
	inside := append(slices.Clone(around), x.Name)
	for i, part := range x.Parts {
		names := inside
		if x.Kind == api.Let && i == 0 || x.Name == "" {
			names = around
		}
		if s, free := firstFree(part, names...); free {
			return s, true
		}
	}
	return api.Span{}, false
}

// secondCore is the core of equations, left out one by one.
func secondCore(l []api.Eq) []int {
	left := make([]bool, len(l))
	solvable := func() bool {
		var some []api.Eq
		for i, there := range left {
			if there {
				some = append(some, l[i])
			}
		}
		return solve.Sat(some...) == api.OK
	}
	var core []int
	for i := range left {
		left[i] = true
	}
	for i := range left {
		left[i] = false
		if solvable() {
			left[i] = true
			core = append(core, i)
		}
	}
	return core
}

// secondSlices is the slices of some equations, byte by byte.
func secondSlices(n int, l []api.Eq, core []int) []api.Span {
	has := make([]bool, n+1)
	for _, i := range core {
		for b := l[i].At.From; b < l[i].At.To; b++ {
			has[b] = true
		}
	}
	var merged []api.Span
	from := -1
	for b, there := range has {
		switch {
		case there && from < 0:
			from = b
		case !there && from >= 0:
			merged = append(merged, at(from, b))
			from = -1
		}
	}
	return merged
}

// secondly is the verdict on a text, but for its steps.
func secondly(s string, l api.Limits) api.Verdict {
	if len(s) > l.Bytes {
		return hit(api.LBytes)
	}
	x, where, e := parse.Term(s, l.Depth)
	switch {
	case e == api.ErrDeep:
		return hit(api.LDepth)
	case e != api.OK:
		return api.Verdict{Kind: api.VSyntax, At: where}
	}
	if where, free := firstFree(x); free {
		return api.Verdict{Kind: api.VScope, At: where}
	}
	if n, _ := count.Eqs(x); n > l.Eqs || n > 4096 {
		return hit(api.LEqs)
	}
	equations, _ := eqs.Of(x, math.MaxInt)
	u, e := solve.Type(4096, types.Var(0), equations...)
	switch e {
	case api.OK:
		return typed(types.Print(types.Canon(u)))
	case api.ErrMany:
		return hit(api.LSize)
	}
	core := secondCore(equations)
	return wrong(core, secondSlices(len(s), equations, core)...)
}

// hold holds a text's verdict against the second way, and against what follows of it.
func hold(t *testing.T, s string, l api.Limits) api.Verdict {
	t.Helper()
	v := check.Check(s, l)
	if second := secondly(s, l); !same(v, second) {
		t.Fatalf("%q under %v: %+v, want %+v", s, l, v, second)
	}
	if v.Steps < 1 || v.Steps > count.Bound(len(s), l.Eqs) {
		t.Fatalf("%q under %v: %d steps", s, l, v.Steps)
	}
	laid := check.Equations(s, l)
	switch {
	case v.Kind == api.VScheme || v.Kind == api.VType || v.Limit == api.LSize:
		n, _ := count.Eqs(read(t, s))
		level, _ := parse.Level(s)
		if len(laid) != n || n > l.Eqs || level > l.Depth {
			t.Fatalf("%q under %v: %d equations of %d", s, l, len(laid), n)
		}
		want(t, s, api.Limits{Bytes: len(s), Depth: level, Eqs: n}, v)
	case len(laid) > 0:
		t.Fatalf("%q under %v: equations %v", s, l, laid)
	}
	return v
}

// phrases is all small terms' texts, each in brackets where it isn't an atom.
func phrases(depth int) []string {
	l := []string{"x", "y", "1", "true"}
	if depth == 0 {
		return l
	}
	inner := phrases(depth - 1)
	for _, a := range inner {
		l = append(l, "(fun x -> "+a+")", "("+a+" : int)", "(if "+a+" then 1 else "+a+")")
		for _, b := range inner {
			l = append(l, "("+a+" "+b+")", "(let x = "+a+" in "+b+")", "(let rec y = "+a+" in "+b+")", "("+a+", "+b+")")
		}
	}
	return l
}

func TestSmallTerms(t *testing.T) {
	kinds := map[int]int{}
	for _, s := range phrases(1) {
		kinds[hold(t, s, wide()).Kind]++
	}
	for _, s := range phrases(2) {
		kinds[hold(t, "fun x -> fun y -> "+s, wide()).Kind]++
	}
	for kind, least := range map[int]int{api.VScheme: 1000, api.VScope: 20, api.VType: 1000} {
		if kinds[kind] < least {
			t.Errorf("%d of the kind %d", kinds[kind], kind)
		}
	}
}

// Each text of some few tokens, under limits of each size that it may hit.
func TestSmallTexts(t *testing.T) {
	tokens := []string{"x", "1", "true", "(", ")", ",", ":", "int", "fun x ->", "let x =", "let rec x =", "in", "if", "then", "else", "$", "#"}
	texts := []string{""}
	limits := []api.Limits{wide(), bytes(12), depth(1), depth(2), equations(1), equations(3)}
	kinds := map[int]int{}
	for range 4 {
		var longer []string
		for _, s := range texts {
			for _, token := range tokens {
				longer = append(longer, strings.TrimLeft(s+" "+token, " "))
			}
		}
		texts = longer
		for _, s := range texts {
			for _, l := range limits {
				kinds[hold(t, s, l).Kind]++
			}
		}
	}
	for kind := api.VScheme; kind <= api.VType; kind++ {
		if kinds[kind] < 20 {
			t.Errorf("%d of the kind %d", kinds[kind], kind)
		}
	}
}

// chance gives texts, the same ones whenever the tests run.
type chance struct{ *rand.Rand }

func begin(n uint64) chance { return chance{rand.New(rand.NewPCG(n, 23))} }

// blanks is some, or a remark.
func (c chance) blanks() string {
	return []string{" ", "  ", "\n", " \t", "\r\n", " # 1 )\n"}[c.IntN(40)%6]
}

func (c chance) one(l ...string) string { return l[c.IntN(len(l))] }

// text is an expression's.
func (c chance) text(depth int) string {
	name, b := c.one("x", "y", "f", "g"), c.blanks()
	part := func() string { return c.text(depth - 1) }
	n := c.IntN(20)
	switch {
	case depth == 0 && n < 13 || n < 4:
		return name
	case depth == 0 || n == 4:
		return c.one("0", "1", "23", "true", "false")
	case n < 9:
		return "fun " + name + " ->" + b + part()
	case n < 12:
		return "(" + part() + ")" + b + "(" + part() + ")"
	case n < 15:
		return "let " + name + " =" + b + part() + b + "in" + b + part()
	case n == 15:
		return "let rec " + name + " =" + b + part() + b + "in" + b + part()
	case n == 16:
		return "if" + b + part() + b + "then" + b + part() + b + "else " + part()
	case n < 19:
		return "(" + part() + "," + b + part() + c.one("", "", ", 1", ", "+c.text(0)) + ")"
	}
	return "(" + part() + b + ":" + c.one("int", "bool", "int -> int", "(bool * int)", "(int -> bool) -> bool") + ")"
}

// closed is a text in functions of all names, mostly.
func (c chance) closed(depth int) string {
	s := c.text(depth)
	if c.IntN(10) > 0 {
		s = "fun x -> fun y -> fun f -> fun g -> " + s
	}
	return s
}

// spoil is a text, a piece of which is another one.
func (c chance) spoil(s string) string {
	from := c.IntN(len(s) + 1)
	to := min(len(s), from+c.IntN(4))
	return s[:from] + c.one("", "", " ", "(", ")", "1", " x ", ",", " 12 ", "$", "\xff", "#", " in ", " fun ", " : int)") + s[to:]
}

// limits is some, that are hit now and then.
func (c chance) limits() api.Limits {
	l := wide()
	if c.IntN(4) == 0 {
		l.Bytes = 1 + c.IntN(200)
	}
	if c.IntN(4) == 0 {
		l.Depth = 1 + c.IntN(12)
	}
	if c.IntN(4) == 0 {
		l.Eqs = 1 + c.IntN(60)
	}
	return l
}

func TestTextsByChance(t *testing.T) {
	c := begin(1)
	kinds, limits := map[int]int{}, map[int]int{}
	for range 12000 {
		s := c.closed(1 + c.IntN(5))
		for range c.IntN(6) / 4 {
			s = c.spoil(s)
		}
		l := c.limits()
		// The second way takes as many times solving them as there are equations.
		if len(check.Equations(s, l)) > 200 {
			continue
		}
		v := hold(t, s, l)
		kinds[v.Kind]++
		limits[v.Limit]++
	}
	for kind := api.VScheme; kind <= api.VType; kind++ {
		if kinds[kind] < 300 {
			t.Errorf("%d of the kind %d", kinds[kind], kind)
		}
	}
	for limit := api.LBytes; limit <= api.LEqs; limit++ {
		if limits[limit] < 50 {
			t.Errorf("%d of the limit %d", limits[limit], limit)
		}
	}
}

// Any bytes have a verdict, and each of a syntax error lies in the text.
func TestBytesByChance(t *testing.T) {
	c := begin(2)
	for range 20000 {
		var b strings.Builder
		for range c.IntN(12) {
			b.WriteByte(byte(c.IntN(256)))
		}
		s := b.String()
		v := hold(t, s, c.limits())
		if v.Kind == api.VSyntax && (v.At.From < 0 || v.At.To > len(s) || v.At.From > v.At.To) {
			t.Errorf("%q: %+v", s, v)
		}
	}
}

// what follows

// Under greater limits a verdict that is no VLimit stays; a limit that is hit is so under lesser ones, too.
func TestGreaterLimits(t *testing.T) {
	c := begin(3)
	stays := map[int]int{}
	for range 6000 {
		s := c.closed(1 + c.IntN(5))
		if c.IntN(3) == 0 {
			s = c.spoil(s)
		}
		l := c.limits()
		v := check.Check(s, l)
		more := api.Limits{Bytes: l.Bytes + c.IntN(100), Depth: l.Depth + c.IntN(5), Eqs: l.Eqs + c.IntN(50)}
		more = api.Limits{Bytes: min(more.Bytes, 1<<30), Depth: min(more.Depth, 1<<30), Eqs: min(more.Eqs, 1<<30)}
		for _, greater := range []api.Limits{more, wide()} {
			got := check.Check(s, greater)
			if v.Kind != api.VLimit && !same(got, v) {
				t.Errorf("%q: %+v under %v, %+v under %v", s, v, l, got, greater)
			}
			if got.Kind == api.VLimit && v.Kind != api.VLimit {
				t.Errorf("%q: no limit under %v, but under %v", s, l, greater)
			}
		}
		stays[v.Kind]++
	}
	for kind := api.VScheme; kind <= api.VType; kind++ {
		if stays[kind] < 200 {
			t.Errorf("%d of the kind %d", stays[kind], kind)
		}
	}
}

// A core can't be solved, but without whichever of it; its slices are what it is charged with, rising, in the text, and none touches another one.
func TestCoresAndSlices(t *testing.T) {
	c := begin(4)
	found := 0
	for range 8000 {
		s := c.closed(1 + c.IntN(5))
		v := check.Check(s, equations(400))
		if v.Kind != api.VType {
			continue
		}
		found++
		l := check.Equations(s, equations(400))
		if !mus.Minimal(l, v.Core...) || !slices.IsSorted(v.Core) {
			t.Fatalf("%q: no core: %v", s, v.Core)
		}
		var charged []api.Span
		for _, i := range v.Core {
			charged = append(charged, l[i].At)
		}
		if !span.Right(len(s), v.Slices...) || !span.Within(v.Slices, charged) || !span.Within(charged, v.Slices) || len(v.Slices) == 0 {
			t.Fatalf("%q: %v of %v", s, v.Slices, charged)
		}
		for i, x := range v.Slices {
			if x.From >= x.To || i > 0 && v.Slices[i-1].To >= x.From {
				t.Fatalf("%q: %v", s, v.Slices)
			}
		}
	}
	if found < 1000 {
		t.Errorf("%d texts without a type", found)
	}
}

// A text with a scheme has a derivation, whose first type is an instance of it; one with a type's error has none.
func TestDerivations(t *testing.T) {
	c := begin(5)
	kinds := map[int]int{}
	for range 8000 {
		s := c.closed(1 + c.IntN(5))
		v := check.Check(s, wide())
		kinds[v.Kind]++
		switch v.Kind {
		case api.VScheme:
			x := read(t, s)
			u, e := signature.Parse(v.Scheme)
			if e != api.OK || !derive.Root(x, u) {
				t.Fatalf("%q: no derivation of %s", s, v.Scheme)
			}
			// Of types within that are too great none is told.
			if l, e := derive.Of(x); e != api.ErrMany && (!derive.Check(x, l) || !scheme.Instance(scheme.Close(u), l[0])) {
				t.Fatalf("%q: no derivation, %v", s, e)
			}
		case api.VType:
			if _, e := derive.Of(read(t, s)); e != api.ErrClash {
				t.Fatalf("%q: %+v, but a derivation", s, v)
			}
		}
	}
	if kinds[api.VScheme] < 1000 || kinds[api.VType] < 1000 {
		t.Errorf("kinds: %v", kinds)
	}
}

// Of small terms all lists of some types are gone through: with a type's error none is a derivation.
func TestNoDerivation(t *testing.T) {
	some := []api.Type{{Kind: api.TInt}, {Kind: api.TBool}, types.Var(0)}
	for _, a := range some[:3] {
		for _, b := range some[:3] {
			some = append(some, types.Arrow(a, b))
		}
	}
	for _, s := range []string{"1 1", "1 true", "(1 : bool)", "(true : int)", "fun x -> x x", "(fun x -> 1 : int)", "(1, 1) 1", "if 1 then 1 else 2", "let x = 1 in x 1"} {
		x := read(t, s)
		n := term.Size(x)
		if v := check.Check(s, wide()); v.Kind != api.VType || n > 5 {
			t.Fatalf("%q: %+v, %d terms", s, v, n)
		}
		list := make([]api.Type, n)
		for code := range int(math.Pow(float64(len(some)), float64(n))) {
			for i := range list {
				list[i] = some[code%len(some)]
				code /= len(some)
			}
			if derive.Check(x, list) {
				t.Errorf("%q has a derivation: %v", s, list)
			}
		}
	}
}

// What is printed anew has the same kind of verdict, and the same scheme.
func TestPrintedAnew(t *testing.T) {
	c := begin(6)
	kinds := map[int]int{}
	for range 6000 {
		s := c.closed(1 + c.IntN(5))
		if c.IntN(8) == 0 {
			s = c.spoil(s)
		}
		v := check.Check(s, wide())
		kinds[v.Kind]++
		anew, e := pretty.Normal(s)
		if e != api.OK {
			if v.Kind != api.VSyntax {
				t.Fatalf("%q: %+v, but no text", s, v)
			}
			continue
		}
		again := check.Check(anew, wide())
		if again.Kind != v.Kind || again.Scheme != v.Scheme || again.Limit != v.Limit || !slices.Equal(again.Core, v.Core) {
			t.Fatalf("%q: %+v; %q: %+v", s, v, anew, again)
		}
		if v.Kind == api.VScope && s[v.At.From:v.At.To] != anew[again.At.From:again.At.To] {
			t.Fatalf("%q: %+v; %q: %+v", s, v, anew, again)
		}
		x := read(t, s)
		if free := scope.Free(x); v.Kind == api.VScope && free[0] != s[v.At.From:v.At.To] {
			t.Fatalf("%q: %+v, but free are %v", s, v, free)
		}
		if text, e := infer.Scheme(x); v.Kind == api.VScheme && (e != api.OK || text != v.Scheme) {
			t.Fatalf("%q: %+v, but %s", s, v, text)
		}
	}
	for _, kind := range []int{api.VScheme, api.VSyntax, api.VScope, api.VType} {
		if kinds[kind] < 100 {
			t.Errorf("%d of the kind %d", kinds[kind], kind)
		}
	}
}

// memory, and deep ones

func TestAnswersAreNewMemory(t *testing.T) {
	s := "fun f -> (f 1, f true)"
	first, l := check.Check(s, wide()), check.Equations(s, wide())
	second, kept := check.Check(s, wide()), check.Equations(s, wide())
	for i := range first.Core[:cap(first.Core)] {
		first.Core[:cap(first.Core)][i] = -1
	}
	for i := range first.Slices[:cap(first.Slices)] {
		first.Slices[:cap(first.Slices)][i] = at(-1, -1)
	}
	for i := range l {
		for j := range l[i].R.Parts {
			l[i].R.Parts[j] = types.Var(77)
		}
		l[i] = api.Eq{}
	}
	third, again := check.Check(s, wide()), check.Equations(s, wide())
	if !same(second, third) || !sameEqs(kept, again) || len(third.Core) != 6 {
		t.Errorf("%+v, and then %+v", second, third)
	}
}

func TestDeepTexts(t *testing.T) {
	const deep = 1 << 14
	defer debug.SetMaxStack(debug.SetMaxStack(1 << 19))
	around := func(ahead, inside, behind string) string {
		return strings.Repeat(ahead, deep) + inside + strings.Repeat(behind, deep)
	}
	for s, v := range map[string]api.Verdict{
		around("(", "1", ")"):                                 typed("int"),
		around("(", "1 true", ")"):                            wrong([]int{0, 2}, at(deep, deep+6)),
		around("(", "x", ")"):                                 unbound(deep, deep+1),
		around("(", "", ")"):                                  syntax(deep, deep+1),
		around("(", "1", ""):                                  syntax(deep+1, deep+1),
		around("fun x -> ", "x", ""):                          hit(api.LEqs),
		around("(1, ", "x", ")"):                              unbound(4*deep, 4*deep+1),
		around("let x = ", "1", " in x"):                      hit(api.LEqs),
		"(1 : " + around("(", "int", ")") + ")":               typed("int"),
		"(1 : " + around("int -> ", "int", "") + ")":          wrong([]int{0, 1}, at(1, 2)),
		"fun f -> (f : " + around("int -> ", "int", ")"):      syntax(14+7*deep+4, 14+7*deep+5),
		"fun f -> (f : " + around("int -> ", "int", "") + ")": hit(api.LSize),
	} {
		want(t, s, wide(), v)
		if level, ok := parse.Level(s); ok {
			want(t, s, depth(level-1), hit(api.LDepth))
		}
	}
}
