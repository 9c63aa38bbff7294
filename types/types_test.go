package types_test

import (
	"math"
	"runtime/debug"
	"slices"
	"strings"
	"testing"

	"pangram/api"
	"pangram/types"
)

const deep = 1 << 17 // levels: calls within calls as deep would take more than the stack that TestDeepTypes gives

func node(kind, n int, parts ...api.Type) api.Type {
	return api.Type{Kind: kind, N: n, Parts: parts}
}

func v(n int) api.Type { return node(api.TVar, n) }

func arrow(a, b api.Type) api.Type { return node(api.TArrow, 0, a, b) }

func tuple(parts ...api.Type) api.Type { return node(api.TTuple, 0, parts...) }

func truth() api.Type { return node(api.TBool, 0) }

func number() api.Type { return node(api.TInt, 0) }

func many(n int, t api.Type) []api.Type { return slices.Repeat([]api.Type{t}, n) }

// wrongTypes is types that aren't right, by what is wrong with them.
func wrongTypes() map[string]api.Type {
	return map[string]api.Type{
		"the zero one":                 {},
		"a kind below 1":               node(-1, 0),
		"a kind above 5":               node(6, 0),
		"a variable below 0":           v(-1),
		"a variable of 2^30":           v(1 << 30),
		"a variable far below":         v(math.MinInt),
		"a variable far above":         v(math.MaxInt),
		"a variable with a part":       node(api.TVar, 0, number()),
		"int with a number":            node(api.TInt, 1),
		"int with a part":              node(api.TInt, 0, number()),
		"bool with a number":           node(api.TBool, -1),
		"bool with a part":             node(api.TBool, 0, truth()),
		"an arrow with a number":       node(api.TArrow, 1, number(), number()),
		"an arrow without parts":       node(api.TArrow, 0),
		"an arrow of one part":         node(api.TArrow, 0, number()),
		"an arrow of three parts":      node(api.TArrow, 0, many(3, number())...),
		"a tuple with a number":        node(api.TTuple, 1, number(), number()),
		"a tuple without parts":        tuple(),
		"a tuple of one part":          tuple(number()),
		"a tuple of nine parts":        tuple(many(9, number())...),
		"a wrong left part":            arrow(v(-1), number()),
		"a wrong right part":           arrow(number(), v(1<<30)),
		"a wrong part of a tuple":      tuple(number(), api.Type{}, truth()),
		"a wrong part, further inside": arrow(number(), tuple(truth(), arrow(tuple(number()), truth()))),
	}
}

// rightTypes is types that are right, by their texts.
func rightTypes() map[string]api.Type {
	return map[string]api.Type{
		"'a":                                  v(0),
		"'z":                                  v(25),
		"'a1":                                 v(26),
		"'l41297762":                          v(1<<30 - 1),
		"int":                                 number(),
		"bool":                                truth(),
		"'a -> 'b":                            arrow(v(0), v(1)),
		"int -> bool -> 'c":                   arrow(number(), arrow(truth(), v(2))),
		"(int -> bool) -> 'c":                 arrow(arrow(number(), truth()), v(2)),
		"('a -> int) -> ('a * bool)":          arrow(arrow(v(0), number()), tuple(v(0), truth())),
		"((int -> int) -> int) -> int -> int": arrow(arrow(arrow(number(), number()), number()), arrow(number(), number())),
		"(int * bool)":                        tuple(number(), truth()),
		"(int * int) -> int":                  arrow(tuple(number(), number()), number()),
		"(int -> int) -> (bool * bool) -> 'b": arrow(arrow(number(), number()), arrow(tuple(truth(), truth()), v(1))),
		"((int -> bool) * (bool -> int))":     tuple(arrow(number(), truth()), arrow(truth(), number())),
		"((int * int) * int)":                 tuple(tuple(number(), number()), number()),
		"(int * (int * int))":                 tuple(number(), tuple(number(), number())),
		"('a * ('b -> 'a -> 'c) * 'z2)":       tuple(v(0), arrow(v(1), arrow(v(0), v(2))), v(77)),
		"(int * int * int * int * int * int * int * bool)": tuple(append(many(7, number()), truth())...),
	}
}

// smallTypes is all types of a depth that have at most three parts each; wrong ones, too.
func smallTypes(depth int) []api.Type {
	alone := []api.Type{v(0), v(7), number(), node(api.TArrow, 0), v(-1)}
	if depth == 1 {
		return alone
	}
	l, parts := slices.Clone(alone), smallTypes(depth-1)
	for _, a := range parts {
		l = append(l, tuple(a), node(api.TVar, 1, a))
		for _, b := range parts {
			l = append(l, arrow(a, b), tuple(a, b))
		}
	}
	return l
}

// walk tells types in order, and how deep each one stands.
func walk(t api.Type, depth int, visit func(t api.Type, depth int)) {
	visit(t, depth)
	for _, p := range t.Parts {
		walk(p, depth+1, visit)
	}
}

// told writes all fields of a type.
func told(t api.Type) string {
	var b strings.Builder
	walk(t, 0, func(t api.Type, depth int) {
		b.WriteString(strings.Repeat("[", depth))
		b.WriteString(string(rune(t.Kind+1000)) + string(rune(t.N+2000)))
	})
	return b.String()
}

func wantType(t *testing.T, what string, got, want api.Type) {
	t.Helper()
	if !types.Same(got, want) {
		t.Errorf("%s: %v, want %v", what, got, want)
	}
}

// P3.1

func TestRight(t *testing.T) {
	for name, x := range wrongTypes() {
		if types.Right(x) {
			t.Errorf("%s is right", name)
		}
		if types.Right(tuple(number(), arrow(truth(), x))) {
			t.Errorf("%s is right as a part", name)
		}
	}
	for name, x := range rightTypes() {
		if !types.Right(x) {
			t.Errorf("%s isn't right", name)
		}
	}
	for n := 2; n <= 8; n++ {
		if !types.Right(tuple(many(n, v(n))...)) {
			t.Errorf("a tuple of %d parts isn't right", n)
		}
	}
	if !types.Right(api.Type{Kind: api.TInt, Parts: []api.Type{}}) {
		t.Error("a list without elements isn't the same as none")
	}
}

func TestSizeAndDepth(t *testing.T) {
	for name, c := range map[string]struct {
		t           api.Type
		size, depth int
	}{
		"a variable":       {v(3), 1, 1},
		"the zero one":     {api.Type{}, 1, 1},
		"an arrow":         {arrow(v(0), v(0)), 3, 2},
		"deep to the left": {arrow(arrow(arrow(v(0), v(0)), v(0)), v(0)), 7, 4},
		"deep in between":  {tuple(v(0), tuple(v(0), arrow(v(0), v(0))), number()), 8, 4},
		"a tuple":          {tuple(many(8, truth())...), 9, 2},
		"a wrong tuple":    {tuple(many(20, truth())...), 21, 2},
		"a wrong kind":     {node(99, -5, node(-99, 5, v(-1))), 3, 3},
	} {
		if size, depth := types.Size(c.t), types.Depth(c.t); size != c.size || depth != c.depth {
			t.Errorf("%s: size %d, depth %d, want %d, %d", name, size, depth, c.size, c.depth)
		}
	}
}

func TestVars(t *testing.T) {
	for name, c := range map[string]struct {
		l    []api.Type
		want []int
	}{
		"none":                   {nil, nil},
		"without":                {[]api.Type{number(), tuple(truth(), truth())}, nil},
		"one":                    {[]api.Type{v(5)}, []int{5}},
		"from the left":          {[]api.Type{arrow(arrow(v(9), v(3)), tuple(v(3), v(7), v(9), v(0)))}, []int{9, 3, 7, 0}},
		"the left part's first":  {[]api.Type{arrow(v(4), arrow(v(3), v(2)))}, []int{4, 3, 2}},
		"of all together":        {[]api.Type{v(2), arrow(v(1), v(2)), number(), tuple(v(0), v(1))}, []int{2, 1, 0}},
		"of wrong ones":          {[]api.Type{v(-4), node(99, 8, v(1<<30)), v(-4), tuple(v(math.MinInt))}, []int{-4, 1 << 30, math.MinInt}},
		"of one with parts":      {[]api.Type{node(api.TVar, 6, v(2), v(6))}, []int{6, 2}},
		"numbers of other kinds": {[]api.Type{node(api.TInt, 3), node(0, 4), node(api.TTuple, 5, v(1))}, []int{1}},
	} {
		if got := types.Vars(c.l...); !slices.Equal(got, c.want) {
			t.Errorf("%s: %v, want %v", name, got, c.want)
		}
	}
}

func TestSame(t *testing.T) {
	small := smallTypes(2)
	for i, a := range small {
		for j, b := range small {
			if types.Same(a, b) != (told(a) == told(b)) {
				t.Fatalf("Same(%v, %v) is wrong (%d, %d)", a, b, i, j)
			}
		}
	}
	for name, c := range map[string][2]api.Type{
		"kinds":               {number(), truth()},
		"numbers":             {v(1), v(2)},
		"numbers of others":   {number(), node(api.TInt, 1)},
		"how many parts":      {tuple(many(3, v(0))...), tuple(many(2, v(0))...)},
		"parts":               {tuple(v(0), v(1)), tuple(v(1), v(0))},
		"where the parts are": {arrow(arrow(v(0), v(0)), v(0)), arrow(v(0), arrow(v(0), v(0)))},
		"with parts and none": {api.Type{}, node(0, 0, api.Type{})},
		"the last part of it": {tuple(v(0), tuple(v(1), v(2))), tuple(v(0), tuple(v(1), v(3)))},
	} {
		if types.Same(c[0], c[1]) || types.Same(c[1], c[0]) {
			t.Errorf("the same, but for %s", name)
		}
	}
	if !types.Same(api.Type{Kind: 2, Parts: []api.Type{}}, api.Type{Kind: 2}) {
		t.Error("a list without elements isn't the same as none")
	}
}

func TestHas(t *testing.T) {
	x := tuple(arrow(v(3), number()), node(api.TInt, 8), node(api.TVar, 5, v(-2)), node(0, 9))
	for n, want := range map[int]bool{3: true, 5: true, -2: true, 8: false, 9: false, 0: false, 4: false, math.MinInt: false} {
		if types.Has(x, n) != want {
			t.Errorf("Has(%v, %d) isn't %v", x, n, want)
		}
	}
	if !types.Has(v(7), 7) || types.Has(api.Type{}, 0) || types.Has(number(), 0) || types.Has(tuple(number(), truth()), 0) {
		t.Error("Has of one without parts")
	}
}

func TestVar(t *testing.T) {
	for _, n := range []int{0, 1, 26, 1<<30 - 1, 1 << 30, -1, math.MinInt, math.MaxInt} {
		wantType(t, "Var", types.Var(n), v(n))
	}
}

func TestArrow(t *testing.T) {
	wantType(t, "of none", types.Arrow(), api.Type{})
	wantType(t, "of one", types.Arrow(tuple(v(1), v(2))), tuple(v(1), v(2)))
	wantType(t, "of a wrong one", types.Arrow(node(99, -7)), node(99, -7))
	wantType(t, "of two", types.Arrow(v(1), v(2)), arrow(v(1), v(2)))
	wantType(t, "of three", types.Arrow(v(1), v(2), v(3)), arrow(v(1), arrow(v(2), v(3))))
	wantType(t, "of arrows", types.Arrow(arrow(v(1), v(2)), arrow(v(3), v(4)), number()),
		arrow(arrow(v(1), v(2)), arrow(arrow(v(3), v(4)), number())))
	wantType(t, "of wrong ones", types.Arrow(api.Type{}, v(-1)), arrow(api.Type{}, v(-1)))
}

func TestCopy(t *testing.T) {
	for _, x := range smallTypes(3) {
		if got := types.Copy(x); told(got) != told(x) {
			t.Fatalf("Copy(%v) = %v", x, got)
		}
	}
}

// wreck overwrites all of a type's parts, spare room too.
func wreck(t api.Type) {
	for i := range t.Parts {
		wreck(t.Parts[i])
	}
	l := t.Parts[:cap(t.Parts)]
	for i := range l {
		l[i] = node(77, 77)
	}
}

func TestAnswersAreNewMemory(t *testing.T) {
	for name, of := range map[string]func(x api.Type) api.Type{
		"Copy":           types.Copy,
		"Canon":          types.Canon,
		"Shift":          func(x api.Type) api.Type { return types.Shift(x, 0, 9, 1) },
		"Shift of none":  func(x api.Type) api.Type { return types.Shift(x, 5, 5, 1) },
		"Arrow of one":   func(x api.Type) api.Type { return types.Arrow(x) },
		"Arrow of two":   func(x api.Type) api.Type { return types.Arrow(x, x) },
		"Arrow of three": func(x api.Type) api.Type { return types.Arrow(x, x, x) },
	} {
		x := arrow(arrow(v(3), v(1)), tuple(v(3), arrow(v(0), number())))
		before := told(x)
		first := of(x)
		want := told(first)
		if told(x) != before {
			t.Errorf("%s changes what it is handed", name)
		}
		if len(first.Parts[0].Parts) > 0 && len(first.Parts[1].Parts) > 0 && &first.Parts[0].Parts[0] == &first.Parts[1].Parts[0] {
			t.Errorf("%s answers one list twice", name)
		}
		wreck(first)
		if told(x) != before {
			t.Errorf("%s answers what it was handed", name)
		}
		if got := told(of(x)); got != want {
			t.Errorf("%s answers one memory twice", name)
		}
	}
}

func TestWhatIsHandedInStays(t *testing.T) {
	parts := []api.Type{v(3), tuple(v(1), v(3)), number(), node(88, 88)}
	room := slices.Clone(parts)
	l := parts[:3]
	x := api.Type{Kind: api.TTuple, Parts: l}
	types.Right(x)
	types.Size(x)
	types.Depth(x)
	types.Same(x, x)
	types.Has(x, 99)
	types.Vars(l...)
	types.Arrow(l...)
	types.Print(x)
	for i := range parts {
		if told(parts[i]) != told(room[i]) {
			t.Errorf("part %d changed: %v", i, parts[i])
		}
	}
	arrow := types.Arrow(l...)
	l[0], l[1].Parts[0] = truth(), truth()
	if got := types.Print(arrow); got != "'d -> ('b * 'd) -> int" {
		t.Errorf("an arrow changed with what it was made of: %s", got)
	}
}

// P3.2

func TestShift(t *testing.T) {
	const last = 1<<30 - 1
	for name, c := range map[string]struct{ n, from, to, by, want int }{
		"inside":                       {5, 3, 9, 4, 9},
		"inside, less":                 {5, 3, 9, -5, 0},
		"from":                         {3, 3, 9, 1, 4},
		"ahead of from":                {2, 3, 9, 1, 2},
		"the last":                     {8, 3, 9, 1, 9},
		"to":                           {9, 3, 9, 1, 9},
		"by none":                      {5, 3, 9, 0, 5},
		"no numbers":                   {5, 9, 3, 1, 5},
		"no numbers, from is to":       {5, 5, 5, 1, 5},
		"to the greatest":              {5, 0, 9, last - 5, last},
		"above the greatest":           {5, 0, 9, last - 4, 5},
		"to 0":                         {5, 0, 9, -5, 0},
		"below 0":                      {5, 0, 9, -6, 5},
		"the greatest":                 {last, last, math.MaxInt, -last, 0},
		"the greatest, above":          {last, 0, math.MaxInt, 1, last},
		"all":                          {5, math.MinInt, math.MaxInt, 2, 7},
		"by the greatest int":          {5, 0, 9, math.MaxInt, 5},
		"the greatest by the greatest": {last, 0, math.MaxInt, math.MaxInt, last},
		"by the least int":             {5, 0, 9, math.MinInt, 5},
		"one below 0":                  {-1, math.MinInt, math.MaxInt, 3, -1},
		"one above":                    {1 << 30, 0, math.MaxInt, -3, 1 << 30},
		"the least int":                {math.MinInt, math.MinInt, math.MaxInt, math.MaxInt, math.MinInt},
		"the greatest int":             {math.MaxInt, 0, math.MaxInt, math.MinInt, math.MaxInt},
		"wrapped":                      {math.MinInt, math.MinInt, 0, math.MinInt, math.MinInt},
	} {
		wantType(t, name, types.Shift(v(c.n), c.from, c.to, c.by), v(c.want))
		wantType(t, name+", as a part", types.Shift(tuple(number(), arrow(v(c.n), truth())), c.from, c.to, c.by),
			tuple(number(), arrow(v(c.want), truth())))
	}
	x := tuple(v(0), v(1), v(2), v(1), node(api.TInt, 1), node(9, 1, v(1)), node(api.TVar, 1, v(1)))
	wantType(t, "each on its own", types.Shift(x, 1, 2, 1),
		tuple(v(0), v(2), v(2), v(2), node(api.TInt, 1), node(9, 1, v(2)), node(api.TVar, 2, v(2))))
}

func TestCanon(t *testing.T) {
	for name, c := range map[string]struct{ t, want api.Type }{
		"without variables":     {arrow(number(), truth()), arrow(number(), truth())},
		"one":                   {v(9), v(0)},
		"by places":             {arrow(v(9), arrow(v(3), tuple(v(9), v(5), v(3)))), arrow(v(0), arrow(v(1), tuple(v(0), v(2), v(1))))},
		"names changed about":   {tuple(v(1), v(0), v(1)), tuple(v(0), v(1), v(0))},
		"from the left":         {arrow(arrow(v(2), v(1)), v(0)), arrow(arrow(v(0), v(1)), v(2))},
		"wrong ones":            {tuple(v(-3), v(1<<30), v(-3)), tuple(v(0), v(1), v(0))},
		"one with a part":       {node(api.TVar, 8, v(4), v(8)), node(api.TVar, 0, v(1), v(0))},
		"other kinds' numbers":  {tuple(node(api.TInt, 7), v(7), node(0, 7)), tuple(node(api.TInt, 7), v(0), node(0, 7))},
		"the zero one":          {api.Type{}, api.Type{}},
		"the greatest and more": {tuple(v(1<<30-1), v(0)), tuple(v(0), v(1))},
	} {
		wantType(t, name, types.Canon(c.t), c.want)
	}
}

func TestName(t *testing.T) {
	for n, want := range map[int]string{
		0: "'a", 1: "'b", 25: "'z", 26: "'a1", 27: "'b1", 51: "'z1", 52: "'a2", 259: "'z9", 260: "'a10",
		26*99 + 3: "'d99", 26 * 100: "'a100", 1<<30 - 1: "'l41297762",
		-1: "", 1 << 30: "", math.MinInt: "", math.MaxInt: "", -26: "",
	} {
		if got := types.Name(n); got != want {
			t.Errorf("Name(%d) = %q, want %q", n, got, want)
		}
	}
	names := map[string]bool{}
	for n := range 5000 {
		names[types.Name(n)] = true
	}
	if len(names) != 5000 {
		t.Errorf("5000 variables have %d names", len(names))
	}
}

func TestPrint(t *testing.T) {
	for text, x := range rightTypes() {
		if got := types.Print(x); got != text {
			t.Errorf("Print = %q, want %q", got, text)
		}
	}
	for name, x := range wrongTypes() {
		if got := types.Print(x); got != "" {
			t.Errorf("%s is printed: %q", name, got)
		}
		if got := types.Print(arrow(number(), x)); got != "" {
			t.Errorf("%s is printed as a part: %q", name, got)
		}
	}
}

// P3.3, and P3.1, P3.2 by a second way

func TestSmallTypes(t *testing.T) {
	for _, x := range smallTypes(3) {
		size, depth, vars, has := 0, 0, []int(nil), map[int]bool{}
		walk(x, 1, func(p api.Type, d int) {
			size, depth = size+1, max(depth, d)
			if p.Kind == api.TVar && !has[p.N] {
				vars, has[p.N] = append(vars, p.N), true
			}
		})
		if types.Size(x) != size || types.Depth(x) != depth || !slices.Equal(types.Vars(x), vars) {
			t.Fatalf("%v: size %d, depth %d, variables %v, want %d, %d, %v",
				x, types.Size(x), types.Depth(x), types.Vars(x), size, depth, vars)
		}
		for _, n := range []int{-1, 0, 1, 7} {
			if types.Has(x, n) != has[n] {
				t.Fatalf("%v: Has %d isn't %v", x, n, has[n])
			}
		}
		checkCanon(t, x, vars)
	}
}

// checkCanon holds a type's Canon against itself, and against that of types which have other variables.
func checkCanon(t *testing.T, x api.Type, vars []int) {
	t.Helper()
	canon := types.Canon(x)
	for i, n := range types.Vars(canon) {
		if n != i {
			t.Fatalf("Canon(%v) = %v: the variable %d stands at %d", x, canon, n, i)
		}
	}
	if len(types.Vars(canon)) != len(vars) {
		t.Fatalf("Canon(%v) = %v: not as many variables", x, canon)
	}
	wantType(t, "Canon of Canon", types.Canon(canon), canon)
	wantType(t, "Canon of one with other variables", types.Canon(renamed(x)), canon)
	// The names that a type's variables had come back by their places.
	wantType(t, "Canon, named back", namedBy(canon, vars), x)
}

// renamed is a type whose variables are others, one for one, in another order.
func renamed(t api.Type) api.Type {
	if t.Kind == api.TVar {
		t.N = 1000 - 3*t.N
	}
	t.Parts = slices.Clone(t.Parts)
	for i, p := range t.Parts {
		t.Parts[i] = renamed(p)
	}
	return t
}

func namedBy(t api.Type, vars []int) api.Type {
	if t.Kind == api.TVar {
		t.N = vars[t.N]
	}
	t.Parts = slices.Clone(t.Parts)
	for i, p := range t.Parts {
		t.Parts[i] = namedBy(p, vars)
	}
	return t
}

func TestTypesThatDifferHaveOtherTexts(t *testing.T) {
	texts := map[string]string{}
	for _, x := range smallTypes(3) {
		text := types.Print(x)
		if types.Right(x) != (text != "") {
			t.Fatalf("%v: right, but without a text, or the other way round: %q", x, text)
		}
		if other, ok := texts[text]; ok && text != "" && other != told(x) {
			t.Fatalf("two types have the text %q", text)
		}
		texts[text] = told(x)
	}
}

func TestDeepTypes(t *testing.T) {
	defer debug.SetMaxStack(debug.SetMaxStack(4 << 20))
	left, right, row, wrong := v(1), v(1), v(1), v(1)
	for range deep {
		left = arrow(left, number())
		right = arrow(number(), right)
		row = tuple(number(), row)
		wrong = node(9, 9, wrong)
	}
	for name, x := range map[string]api.Type{"left": left, "right": right, "row": row} {
		if !types.Right(x) || types.Size(x) != 2*deep+1 || types.Depth(x) != deep+1 || !types.Has(x, 1) || types.Has(x, 2) {
			t.Errorf("%s: Right, Size, Depth or Has", name)
		}
		if !slices.Equal(types.Vars(x, x), []int{1}) || !types.Same(x, types.Copy(x)) {
			t.Errorf("%s: Vars, Same or Copy", name)
		}
		if types.Same(x, types.Shift(x, 0, 5, 1)) || !types.Same(types.Canon(x), types.Shift(x, 0, 5, -1)) {
			t.Errorf("%s: Shift or Canon", name)
		}
		if text := types.Print(x); strings.Count(text, "int") != deep || strings.Count(text, "'b") != 1 {
			t.Errorf("%s: Print", name)
		}
	}
	if types.Right(wrong) || types.Size(wrong) != deep+1 || types.Print(wrong) != "" || types.Depth(types.Arrow(wrong)) != deep+1 {
		t.Error("wrong: Right, Size, Print, Depth or Arrow")
	}
}
