package subst_test

import (
	"math"
	"runtime/debug"
	"slices"
	"testing"

	"pangram/api"
	"pangram/subst"
	"pangram/types"
)

const deep = 1 << 17 // levels: calls within calls as deep would take more than the stack that TestDeepTypes gives

const greatest = 1<<30 - 1 // the last variable

func node(kind, n int, parts ...api.Type) api.Type {
	return api.Type{Kind: kind, N: n, Parts: parts}
}

func v(n int) api.Type { return node(api.TVar, n) }

func arrow(a, b api.Type) api.Type { return node(api.TArrow, 0, a, b) }

func tuple(parts ...api.Type) api.Type { return node(api.TTuple, 0, parts...) }

func truth() api.Type { return node(api.TBool, 0) }

func number() api.Type { return node(api.TInt, 0) }

func bind(n int, t api.Type) api.Bind { return api.Bind{Var: n, Type: t} }

func eq(l, r api.Type) api.Eq { return api.Eq{L: l, R: r, At: api.Span{From: 3, To: 4}} }

// smallTypes is types of at most two levels; wrong ones, too.
func smallTypes() []api.Type {
	alone := []api.Type{v(0), v(1), v(-1), number(), node(api.TInt, 1)}
	l := append(slices.Clone(alone), node(api.TTuple, 0), node(9, 0))
	for _, a := range alone {
		l = append(l, tuple(a), node(api.TVar, 0, a), node(api.TVar, 5, a), node(9, 1, a))
		for _, b := range alone {
			l = append(l, arrow(a, b), tuple(a, b))
		}
	}
	return l
}

// smallBinds is binds of a few variables.
func smallBinds() []api.Bind {
	return []api.Bind{
		bind(0, v(1)), bind(0, arrow(v(0), v(1))), bind(0, number()), bind(1, v(0)), bind(1, tuple(v(5), v(1), truth())),
		bind(5, number()), bind(-1, v(-1)), bind(1, node(api.TVar, 0, v(1))), bind(-1, node(9, 1, v(0))),
	}
}

// smallLists is all lists of at most so many of them.
func smallLists(most int) [][]api.Bind {
	l := [][]api.Bind{nil}
	if most == 0 {
		return l
	}
	for _, ahead := range smallLists(most - 1) {
		for _, b := range smallBinds() {
			l = append(l, append(slices.Clone(ahead), b))
		}
	}
	return l
}

// first is the first bind of a variable.
func first(l []api.Bind, n int) (api.Type, bool) {
	for _, b := range l {
		if b.Var == n {
			return b.Type, true
		}
	}
	return api.Type{}, false
}

// becoming is what a type becomes, by calls within calls.
func becoming(l []api.Bind, t api.Type) api.Type {
	if b, ok := first(l, t.N); ok && t.Kind == api.TVar {
		return b
	}
	parts := slices.Clone(t.Parts)
	for i := range parts {
		parts[i] = becoming(l, parts[i])
	}
	return node(t.Kind, t.N, parts...)
}

func wantType(t *testing.T, what any, got, want api.Type) {
	t.Helper()
	if !types.Same(got, want) {
		t.Fatalf("%v: %v, want %v", what, got, want)
	}
}

func sameBinds(a, b []api.Bind) bool {
	return slices.EqualFunc(a, b, func(x, y api.Bind) bool { return x.Var == y.Var && types.Same(x.Type, y.Type) })
}

func wantBinds(t *testing.T, what any, got, want []api.Bind) {
	t.Helper()
	if !sameBinds(got, want) {
		t.Fatalf("%v: %v, want %v", what, got, want)
	}
}

// P10.1

func TestRight(t *testing.T) {
	for name, l := range map[string][]api.Bind{
		"none":                      nil,
		"without elements":          {},
		"one":                       {bind(3, number())},
		"the first and the last":    {bind(0, v(1)), bind(greatest, v(0))},
		"of its own type":           {bind(2, v(2))},
		"a variable in its type":    {bind(2, arrow(v(2), number()))},
		"another one's variable":    {bind(2, v(3)), bind(3, v(2))},
		"one type of two variables": {bind(2, tuple(v(3), truth())), bind(1, tuple(v(3), truth()))},
		"falling":                   {bind(9, number()), bind(8, number()), bind(7, number())},
		"an empty list of parts":    {bind(1, api.Type{Kind: api.TInt, Parts: []api.Type{}})},
	} {
		if !subst.Right(l) {
			t.Errorf("%s: isn't right", name)
		}
	}
	for name, l := range map[string][]api.Bind{
		"below 0":                     {bind(-1, number())},
		"above the last":              {bind(greatest+1, number())},
		"far below":                   {bind(math.MinInt, number())},
		"far above":                   {bind(math.MaxInt, number())},
		"behind right ones":           {bind(0, number()), bind(1, number()), bind(-1, number())},
		"alike":                       {bind(3, number()), bind(3, number())},
		"one variable's two types":    {bind(3, number()), bind(3, truth())},
		"one variable, others around": {bind(1, v(0)), bind(3, v(0)), bind(2, v(0)), bind(3, v(1))},
		"the zero one":                {{}},
		"no type":                     {bind(3, api.Type{})},
		"a variable below 0":          {bind(3, v(-1))},
		"a variable above the last":   {bind(3, arrow(number(), v(greatest+1)))},
		"a tuple of one":              {bind(3, tuple(number()))},
		"a tuple of nine":             {bind(3, tuple(slices.Repeat([]api.Type{number()}, 9)...))},
		"a wrong type behind":         {bind(3, number()), bind(4, node(api.TInt, 1))},
		"one that doesn't count":      {bind(3, number()), bind(3, node(9, 9))},
	} {
		if subst.Right(l) {
			t.Errorf("%s: is right", name)
		}
	}
}

func TestApply(t *testing.T) {
	for name, c := range map[string]struct {
		l       []api.Bind
		t, want api.Type
	}{
		"none":                        {nil, arrow(v(0), v(1)), arrow(v(0), v(1))},
		"one variable":                {[]api.Bind{bind(0, number())}, v(0), number()},
		"another variable":            {[]api.Bind{bind(0, number())}, v(1), v(1)},
		"wherever it stands":          {[]api.Bind{bind(0, number())}, tuple(v(0), arrow(v(1), v(0)), v(0)), tuple(number(), arrow(v(1), number()), number())},
		"the first one counts":        {[]api.Bind{bind(0, number()), bind(0, truth())}, arrow(v(0), v(0)), arrow(number(), number())},
		"the first one, its own type": {[]api.Bind{bind(0, v(0)), bind(0, truth())}, v(0), v(0)},
		"the first one, others ahead": {[]api.Bind{bind(1, truth()), bind(0, number()), bind(1, v(7)), bind(0, v(8))}, tuple(v(0), v(1)), tuple(number(), truth())},
		"changed about, at once":      {[]api.Bind{bind(0, v(1)), bind(1, v(0))}, arrow(v(0), v(1)), arrow(v(1), v(0))},
		"no further than once":        {[]api.Bind{bind(0, v(1)), bind(1, v(2)), bind(2, number())}, tuple(v(0), v(1), v(2)), tuple(v(1), v(2), number())},
		"its own in its type":         {[]api.Bind{bind(0, arrow(v(0), v(0)))}, tuple(v(0), v(0)), tuple(arrow(v(0), v(0)), arrow(v(0), v(0)))},
		"wrong variables":             {[]api.Bind{bind(-1, number()), bind(greatest+1, truth())}, tuple(v(-1), v(greatest+1), v(greatest)), tuple(number(), truth(), v(greatest))},
		"the least and the greatest":  {[]api.Bind{bind(math.MinInt, v(1)), bind(math.MaxInt, v(2))}, arrow(v(math.MaxInt), v(math.MinInt)), arrow(v(2), v(1))},
		"other kinds' numbers":        {[]api.Bind{bind(0, truth()), bind(1, truth())}, tuple(number(), node(api.TInt, 1), node(0, 0), node(9, 1)), tuple(number(), node(api.TInt, 1), node(0, 0), node(9, 1))},
		"the zero one":                {[]api.Bind{bind(0, truth())}, api.Type{}, api.Type{}},
		"a wrong type for it":         {[]api.Bind{bind(0, node(9, 4, v(0)))}, arrow(v(0), number()), arrow(node(9, 4, v(0)), number())},
		"no type for it":              {[]api.Bind{{}}, arrow(v(0), number()), arrow(api.Type{}, number())},
		"a wrong tuple":               {[]api.Bind{bind(2, truth())}, tuple(v(2)), tuple(truth())},
		"a variable with parts":       {[]api.Bind{bind(2, truth())}, node(api.TVar, 2, v(2), v(3)), truth()},
		"one without a bind":          {[]api.Bind{bind(2, truth())}, node(api.TVar, 3, v(2), v(3)), node(api.TVar, 3, truth(), v(3))},
	} {
		wantType(t, name, subst.Apply(c.l, c.t), c.want)
	}
}

func TestSize(t *testing.T) {
	l := []api.Bind{bind(0, arrow(v(0), v(1))), bind(0, v(9)), bind(1, number()), bind(-1, tuple(v(0), v(1), v(2)))}
	for name, c := range map[string]struct {
		t    api.Type
		want int
	}{
		"a variable without a bind": {v(2), 1},
		"the first bind":            {v(0), 3},
		"each as often":             {tuple(v(0), arrow(v(0), v(1)), v(0)), 12},
		"wrong ones":                {node(9, 9, v(-1), v(7)), 6},
		"the zero one":              {api.Type{}, 1},
		"a variable with parts":     {tuple(node(api.TVar, 1, v(3), v(4)), node(api.TVar, 2, v(0))), 6},
	} {
		if got := subst.Size(l, c.t); got != c.want {
			t.Errorf("%s: %d, want %d", name, got, c.want)
		}
	}
	if got := subst.Size(nil, arrow(v(0), v(0))); got != 3 {
		t.Errorf("without binds: %d", got)
	}
}

// row is the arrow of so many variables that are one.
func row(leaves, n int) api.Type {
	t := v(n)
	for range leaves - 1 {
		t = arrow(v(n), t)
	}
	return t
}

// Of types that are too great to be laid.
func TestSizeAtMost(t *testing.T) {
	const half = 1 << 19
	great := row(2*half, 7) // 2^21 - 1
	l := []api.Bind{bind(0, great), bind(1, number())}
	below := row(half, 0) // half - 1 + half times what great has is 2^40 - 1
	for name, c := range map[string]struct {
		t    api.Type
		want int
	}{
		"one below":                    {below, 1<<40 - 1},
		"as many":                      {node(9, 0, below), 1 << 40},
		"as many, by a variable":       {tuple(v(1)), 2},
		"one above":                    {tuple(v(1), below), 1 << 40},
		"one above, from the left":     {arrow(below, v(3)), 1 << 40},
		"one variable more":            {arrow(v(0), below), 1 << 40},
		"twice":                        {arrow(below, below), 1 << 40},
		"some, as they are":            {great, 1<<21 - 1},
		"far above, by many variables": {tuple(below, row(4*half, 0), v(1)), 1 << 40},
	} {
		if got := subst.Size(l, c.t); got != c.want {
			t.Errorf("%s: %d, want %d", name, got, c.want)
		}
	}
}

func TestSolved(t *testing.T) {
	for name, c := range map[string]struct {
		l    []api.Bind
		want bool
	}{
		"none":                              {nil, true},
		"others' variables":                 {[]api.Bind{bind(0, arrow(v(2), v(3))), bind(1, v(2))}, true},
		"its own":                           {[]api.Bind{bind(0, v(0))}, false},
		"its own, further inside":           {[]api.Bind{bind(0, arrow(number(), tuple(truth(), v(0))))}, false},
		"one behind":                        {[]api.Bind{bind(0, v(1)), bind(1, number())}, false},
		"one ahead":                         {[]api.Bind{bind(0, number()), bind(1, arrow(v(0), v(2)))}, false},
		"one that doesn't count":            {[]api.Bind{bind(0, number()), bind(0, v(0)), bind(0, v(1)), bind(1, truth())}, true},
		"one that counts":                   {[]api.Bind{bind(0, v(1)), bind(0, number()), bind(1, truth())}, false},
		"a wrong variable":                  {[]api.Bind{bind(-1, number()), bind(2, v(-1))}, false},
		"other kinds' numbers":              {[]api.Bind{bind(1, node(api.TInt, 1)), bind(0, tuple(number(), node(9, 1)))}, true},
		"no type":                           {[]api.Bind{{}}, true},
		"a part of a variable without bind": {[]api.Bind{bind(1, node(api.TVar, 5, v(1)))}, false},
	} {
		if got := subst.Solved(c.l); got != c.want {
			t.Errorf("%s: %v", name, got)
		}
	}
}

// P10.2

func TestThen(t *testing.T) {
	for name, c := range map[string]struct{ a, b, want []api.Bind }{
		"none":                    {nil, nil, nil},
		"without the first":       {nil, []api.Bind{bind(1, v(0)), bind(0, v(1))}, []api.Bind{bind(1, v(0)), bind(0, v(1))}},
		"without the second":      {[]api.Bind{bind(1, v(0)), bind(0, v(1))}, nil, []api.Bind{bind(1, v(0)), bind(0, v(1))}},
		"applied":                 {[]api.Bind{bind(0, arrow(v(1), v(2)))}, []api.Bind{bind(1, number())}, []api.Bind{bind(0, arrow(number(), v(2))), bind(1, number())}},
		"of both":                 {[]api.Bind{bind(0, v(1))}, []api.Bind{bind(0, truth())}, []api.Bind{bind(0, v(1))}},
		"of both, and its own":    {[]api.Bind{bind(0, arrow(v(0), v(1)))}, []api.Bind{bind(0, truth())}, []api.Bind{bind(0, arrow(truth(), v(1)))}},
		"of both, others behind":  {[]api.Bind{bind(5, v(3)), bind(0, v(5))}, []api.Bind{bind(7, v(1)), bind(0, truth()), bind(3, v(4)), bind(5, v(9))}, []api.Bind{bind(5, v(4)), bind(0, v(9)), bind(7, v(1)), bind(3, v(4))}},
		"back to itself":          {[]api.Bind{bind(0, v(1))}, []api.Bind{bind(1, v(0))}, []api.Bind{bind(0, v(0)), bind(1, v(0))}},
		"what counts":             {[]api.Bind{bind(0, v(1)), bind(0, v(2)), bind(3, v(1))}, []api.Bind{bind(1, number()), bind(4, v(8)), bind(1, truth()), bind(4, v(9))}, []api.Bind{bind(0, number()), bind(3, number()), bind(1, number()), bind(4, v(8))}},
		"a's type isn't b's":      {[]api.Bind{bind(0, number())}, []api.Bind{bind(1, v(0))}, []api.Bind{bind(0, number()), bind(1, v(0))}},
		"wrong ones":              {[]api.Bind{bind(-1, v(-2)), bind(0, node(9, 9))}, []api.Bind{bind(-2, api.Type{}), bind(-1, v(0))}, []api.Bind{bind(-1, api.Type{}), bind(0, node(9, 9)), bind(-2, api.Type{})}},
		"one that doesn't count":  {[]api.Bind{bind(0, v(1)), bind(0, number())}, []api.Bind{bind(0, v(3)), bind(0, v(4))}, []api.Bind{bind(0, v(1))}},
		"in order, not by number": {[]api.Bind{bind(9, v(0)), bind(4, v(0)), bind(6, v(0))}, []api.Bind{bind(8, v(0)), bind(1, v(0)), bind(5, v(0))}, []api.Bind{bind(9, v(0)), bind(4, v(0)), bind(6, v(0)), bind(8, v(0)), bind(1, v(0)), bind(5, v(0))}},
	} {
		wantBinds(t, name, subst.Then(c.a, c.b), c.want)
	}
}

func TestOnly(t *testing.T) {
	l := []api.Bind{bind(5, v(0)), bind(2, number()), bind(5, truth()), bind(-3, v(2)), bind(0, api.Type{})}
	for name, c := range map[string]struct {
		vars []int
		want []api.Bind
	}{
		"of none":              {nil, nil},
		"one":                  {[]int{2}, []api.Bind{bind(2, number())}},
		"what counts":          {[]int{5}, []api.Bind{bind(5, v(0))}},
		"the binds' order":     {[]int{0, -3, 2, 5}, []api.Bind{bind(5, v(0)), bind(2, number()), bind(-3, v(2)), bind(0, api.Type{})}},
		"named twice":          {[]int{2, 5, 2, 5, 2}, []api.Bind{bind(5, v(0)), bind(2, number())}},
		"that no bind has":     {[]int{1, 3, 7, math.MinInt}, nil},
		"some that no one has": {[]int{1, 2, 7}, []api.Bind{bind(2, number())}},
		"below 0":              {[]int{-3}, []api.Bind{bind(-3, v(2))}},
	} {
		wantBinds(t, name, subst.Only(l, c.vars...), c.want)
	}
	wantBinds(t, "of no binds", subst.Only(nil, 1, 2), nil)
}

func TestAlike(t *testing.T) {
	a := []api.Bind{bind(0, v(1)), bind(0, v(2)), bind(2, arrow(v(0), number())), bind(3, v(3)), bind(4, truth()), bind(-1, v(4))}
	b := []api.Bind{bind(-1, v(4)), bind(2, arrow(v(0), number())), bind(0, v(1)), bind(4, number()), bind(5, v(6)), bind(2, v(9))}
	for name, c := range map[string]struct {
		vars []int
		want bool
	}{
		"of none":                 {nil, true},
		"one type":                {[]int{0}, true},
		"all that are":            {[]int{2, 0, -1, 0, 7}, true},
		"bound to itself, and no": {[]int{3}, true},
		"other types":             {[]int{4}, false},
		"one has none":            {[]int{5}, false},
		"both have none":          {[]int{6, 7, math.MaxInt}, true},
		"one among others":        {[]int{0, 0, 2, 4, 0}, false},
		"the last one":            {[]int{0, 2, 3, 5}, false},
	} {
		if subst.Alike(a, b, c.vars...) != c.want || subst.Alike(b, a, c.vars...) != c.want {
			t.Errorf("%s: isn't %v", name, c.want)
		}
	}
	if !subst.Alike(nil, nil, 1, 2) || !subst.Alike(a, a, 0, 2, 3, 4, -1) || subst.Alike(nil, b, 5) {
		t.Error("of none, or of one")
	}
	if !subst.Alike(nil, []api.Bind{bind(0, v(0))}, 0) || subst.Alike(nil, []api.Bind{bind(0, node(api.TVar, 0, v(0)))}, 0) {
		t.Error("of one without binds")
	}
}

func TestSolves(t *testing.T) {
	l := []api.Bind{bind(0, arrow(v(2), number())), bind(1, number()), bind(0, v(9)), bind(3, v(4)), bind(4, v(3)), bind(-1, node(9, 1))}
	for name, c := range map[string]struct {
		eqs  []api.Eq
		want bool
	}{
		"no equation":              {nil, true},
		"a variable":               {[]api.Eq{eq(v(1), number())}, true},
		"another type":             {[]api.Eq{eq(v(1), truth())}, false},
		"an arrow":                 {[]api.Eq{eq(v(0), arrow(v(2), v(1)))}, true},
		"what doesn't count":       {[]api.Eq{eq(v(0), v(9))}, false},
		"at once":                  {[]api.Eq{eq(v(3), v(4))}, false},
		"changed about":            {[]api.Eq{eq(arrow(v(3), v(4)), arrow(v(4), v(3)))}, false},
		"of itself":                {[]api.Eq{eq(v(3), v(3)), eq(v(8), v(8)), eq(tuple(v(0), v(1)), tuple(v(0), v(1)))}, true},
		"without binds":            {[]api.Eq{eq(v(7), v(8))}, false},
		"all of them":              {[]api.Eq{eq(number(), v(1)), eq(v(1), v(1)), eq(tuple(v(1), v(0)), tuple(number(), v(0)))}, true},
		"the last isn't":           {[]api.Eq{eq(number(), v(1)), eq(v(1), v(1)), eq(tuple(v(1), v(0)), tuple(v(0), number()))}, false},
		"the first isn't":          {[]api.Eq{eq(truth(), v(1)), eq(v(1), v(1))}, false},
		"wrong ones":               {[]api.Eq{eq(v(-1), node(9, 1)), eq(api.Type{}, api.Type{}), eq(tuple(v(1)), tuple(number()))}, true},
		"wrong ones, other kinds":  {[]api.Eq{eq(node(9, 1), node(8, 1))}, false},
		"wrong ones, numbers":      {[]api.Eq{eq(node(9, 1), node(9, 2))}, false},
		"how many parts":           {[]api.Eq{eq(tuple(v(1), v(1)), tuple(v(1), v(1), v(1)))}, false},
		"parts and none":           {[]api.Eq{eq(node(9, 0), node(9, 0, api.Type{}))}, false},
		"where the parts are":      {[]api.Eq{eq(arrow(arrow(v(1), v(1)), v(1)), arrow(v(1), arrow(v(1), v(1))))}, false},
		"a variable, its own part": {[]api.Eq{eq(node(api.TVar, 1, v(7)), number())}, true},
		"a list without elements":  {[]api.Eq{eq(v(1), api.Type{Kind: api.TInt, Parts: []api.Type{}})}, true},
	} {
		if subst.Solves(l, c.eqs...) != c.want {
			t.Errorf("%s: isn't %v", name, c.want)
		}
	}
	if subst.Solves(nil, eq(v(0), v(1))) || !subst.Solves(nil, eq(v(0), v(0))) {
		t.Error("without binds")
	}
}

// What comes of the sides would be too great to be laid, and to be gone through.
func TestSolvesOfGreatTypes(t *testing.T) {
	const leaves = 1 << 15
	l := []api.Bind{bind(0, row(leaves, 7)), bind(1, row(leaves, 7)), bind(2, arrow(v(7), row(leaves, 7))), bind(3, row(leaves-1, 7))}
	with := func(n int) api.Type { return arrow(v(n), row(leaves, 0)) }
	for name, c := range map[string]struct {
		l, r api.Type
		want bool
	}{
		"one variable":                {row(leaves, 0), row(leaves, 0), true},
		"two variables of one type":   {row(leaves, 0), row(leaves, 1), true},
		"another type at the end":     {tuple(row(leaves, 0), v(0)), tuple(row(leaves, 1), v(2)), false},
		"another type ahead":          {with(1), with(2), false},
		"as many on either side":      {row(leaves, 0), row(leaves+1, 0), false},
		"a part, and all of it":       {arrow(v(7), row(leaves, 0)), arrow(v(7), row(leaves, 1)), true},
		"a bind's, and what it has":   {row(leaves, 2), row(leaves, 2), true},
		"what a bind has, spelled":    {tuple(v(2), row(leaves, 2)), tuple(arrow(v(7), v(0)), row(leaves, 2)), true},
		"what a bind's parts are":     {tuple(v(0), row(leaves, 2)), tuple(arrow(v(7), v(3)), row(leaves, 2)), true},
		"what a bind's parts are not": {tuple(v(0), row(leaves, 2)), tuple(arrow(v(7), v(0)), row(leaves, 2)), false},
	} {
		if subst.Solves(l, eq(c.l, c.r)) != c.want || subst.Solves(l, eq(c.r, c.l)) != c.want {
			t.Errorf("%s: isn't %v", name, c.want)
		}
	}
	many := slices.Repeat([]int{0, 1}, leaves)
	if !subst.Alike(l, []api.Bind{l[1], l[0]}, many...) || subst.Alike(l, []api.Bind{l[0], bind(1, row(leaves, 8))}, many...) {
		t.Error("Alike of variables that are told often")
	}
}

// P10.1 to P10.3 by a second way

func TestSmallTypes(t *testing.T) {
	small := smallTypes()
	for _, l := range smallLists(2) {
		var after []api.Type
		for _, x := range small {
			want := becoming(l, x)
			wantType(t, l, subst.Apply(l, x), want)
			if got := subst.Size(l, x); got != types.Size(want) {
				t.Fatalf("%v: Size of %v: %d, want %d", l, x, got, types.Size(want))
			}
			after = append(after, want)
		}
		for i := range small {
			for j := range i + 1 {
				if subst.Solves(l, eq(small[i], small[j])) != types.Same(after[i], after[j]) {
					t.Fatalf("%v: Solves %v = %v is wrong", l, small[i], small[j])
				}
			}
		}
		checkSolved(t, l, small)
	}
}

// checkSolved holds Solved against the words, and a solved one against itself, applied twice.
func checkSolved(t *testing.T, l []api.Bind, small []api.Type) {
	t.Helper()
	want := true
	for i, b := range l {
		for j, other := range l {
			_, ahead := first(l[:j], other.Var)
			if !ahead && types.Has(other.Type, b.Var) {
				want = false
			}
		}
		if _, ok := first(l[:i], b.Var); ok && subst.Right(l) {
			t.Fatalf("%v is right", l)
		}
	}
	if subst.Solved(l) != want {
		t.Fatalf("%v: Solved isn't %v", l, want)
	}
	for _, x := range small {
		once := subst.Apply(l, x)
		if want && !types.Same(subst.Apply(l, once), once) {
			t.Fatalf("%v: %v, applied twice", l, x)
		}
	}
}

func TestThenIsBothInOrder(t *testing.T) {
	small, vars := smallTypes(), []int{0, 1, 5, -1, 2}
	lists := smallLists(2)
	for _, a := range lists {
		for _, b := range lists {
			both := subst.Then(a, b)
			for i, x := range both {
				if _, ok := first(both[:i], x.Var); ok {
					t.Fatalf("Then(%v, %v): %v", a, b, both)
				}
			}
			for _, x := range small {
				wantType(t, both, subst.Apply(both, x), becoming(b, becoming(a, x)))
			}
			checkAlike(t, a, b, vars)
		}
	}
}

func checkAlike(t *testing.T, a, b []api.Bind, vars []int) {
	t.Helper()
	all := true
	for _, n := range vars {
		want := types.Same(becoming(a, v(n)), becoming(b, v(n)))
		if subst.Alike(a, b, n) != want {
			t.Fatalf("Alike(%v, %v, %d) isn't %v", a, b, n, want)
		}
		all = all && want
	}
	if subst.Alike(a, b, vars...) != all {
		t.Fatalf("Alike(%v, %v, %v) isn't %v", a, b, vars, all)
	}
}

func TestOnlyDoesAsMuch(t *testing.T) {
	for _, l := range smallLists(3) {
		for _, vars := range [][]int{{0}, {1, 5}, {-1, 0}, {5, 0, 1, -1}} {
			only := subst.Only(l, vars...)
			if !subst.Alike(only, l, vars...) || !subst.Solved(only) && subst.Solved(l) {
				t.Fatalf("Only(%v, %v): %v", l, vars, only)
			}
			for _, n := range []int{0, 1, 5, -1} {
				_, ok := first(only, n)
				_, has := first(l, n)
				if ok != (has && slices.Contains(vars, n)) {
					t.Fatalf("Only(%v, %v): %v", l, vars, only)
				}
			}
		}
	}
}

// Rules 4 and 7 of what holds everywhere

// wreck overwrites all of a type's parts, spare room too.
func wreck(t api.Type) {
	for i := range t.Parts {
		wreck(t.Parts[i])
	}
	l := t.Parts[:cap(t.Parts)]
	for i := range l {
		l[i] = node(77, 77)
	}
}

// withRoom is a type whose lists have spare room.
func withRoom(kind int, parts ...api.Type) api.Type {
	l := append(slices.Clone(parts), node(88, 88))
	return api.Type{Kind: kind, Parts: l[:len(parts)]}
}

func handedIn() ([]api.Bind, []api.Bind, api.Type) {
	a := []api.Bind{bind(0, withRoom(api.TArrow, v(1), v(2))), bind(1, withRoom(api.TTuple, v(0), v(0))), bind(0, v(9)), bind(66, v(66))}
	b := []api.Bind{bind(1, withRoom(api.TArrow, v(3), number())), bind(4, withRoom(api.TTuple, v(0), truth())), bind(66, v(66))}
	return a[:3], b[:2], withRoom(api.TArrow, v(0), withRoom(api.TTuple, v(0), v(1), v(7)))
}

// asHandedIn tells whether all is as handedIn gives it, spare room too.
func asHandedIn(a, b []api.Bind, t api.Type) bool {
	x, y, z := handedIn()
	return sameBinds(a[:cap(a)], x[:cap(x)]) && sameBinds(b[:cap(b)], y[:cap(y)]) && types.Same(spread(t), spread(z)) &&
		types.Same(spread(a[0].Type), spread(x[0].Type)) && types.Same(spread(b[0].Type), spread(y[0].Type))
}

// spread is a type with its lists' spare room as parts.
func spread(t api.Type) api.Type {
	t.Parts = slices.Clone(t.Parts[:cap(t.Parts)])
	for i := range t.Parts {
		t.Parts[i] = spread(t.Parts[i])
	}
	return t
}

func TestAnswersAreNewMemory(t *testing.T) {
	a, b, x := handedIn()
	for name, answer := range map[string]func() []api.Bind{
		"Apply":       func() []api.Bind { return []api.Bind{bind(0, subst.Apply(a, x))} },
		"Apply, none": func() []api.Bind { return []api.Bind{bind(0, subst.Apply(nil, x))} },
		"Apply, one":  func() []api.Bind { return []api.Bind{bind(0, subst.Apply(a, v(0)))} },
		"Then":        func() []api.Bind { return subst.Then(a, b) },
		"Then, a":     func() []api.Bind { return subst.Then(a, nil) },
		"Then, b":     func() []api.Bind { return subst.Then(nil, b) },
		"Only":        func() []api.Bind { return subst.Only(a, 0, 1) },
	} {
		got := answer()
		want := slices.Clone(got)
		for i := range want {
			want[i].Type = types.Copy(got[i].Type)
		}
		for i := range got {
			wreck(got[i].Type)
			for j := i + 1; j < len(got); j++ {
				wantType(t, name+" shares lists", got[j].Type, want[j].Type)
			}
			got[i] = bind(99, v(99))
		}
		got = append(got, bind(98, v(98)))
		if !asHandedIn(a, b, x) {
			t.Fatalf("%s answers what it was handed", name)
		}
		wantBinds(t, name, answer(), want)
	}
	twice := subst.Apply([]api.Bind{bind(0, arrow(v(1), v(1)))}, tuple(v(0), v(0)))
	wreck(twice.Parts[0])
	wantType(t, "one bind's type, twice", twice.Parts[1], arrow(v(1), v(1)))
}

func TestWhatIsHandedInStays(t *testing.T) {
	a, b, x := handedIn()
	vars := []int{1, 0, 1, 66}[:3]
	eqs := []api.Eq{eq(x, x), eq(v(0), x), eq(v(66), v(66))}[:2]
	subst.Right(a)
	subst.Apply(a, x)
	subst.Size(a, x)
	subst.Then(a, b)
	subst.Solved(a)
	subst.Only(a, vars...)
	subst.Alike(a, b, vars...)
	subst.Solves(b, eqs...)
	if !asHandedIn(a, b, x) || !slices.Equal(vars[:4], []int{1, 0, 1, 66}) {
		t.Errorf("binds %v, %v, a type %v or variables %v have changed", a, b, x, vars)
	}
	if !types.Same(eqs[:3][2].L, v(66)) || !types.Same(eqs[0].R, x) || !types.Same(eqs[1].L, v(0)) {
		t.Errorf("equations %v have changed", eqs)
	}
}

func TestDeepTypes(t *testing.T) {
	defer debug.SetMaxStack(debug.SetMaxStack(4 << 20))
	left, right, wrong := v(1), v(1), v(1)
	for range deep {
		left = arrow(left, number())
		right = tuple(number(), right)
		wrong = node(9, 9, wrong)
	}
	for name, x := range map[string]api.Type{"left": left, "right": right, "wrong": wrong} {
		l := []api.Bind{bind(1, x), bind(2, number())}
		size := types.Size(x)
		twice := subst.Apply(l, x)
		if types.Size(twice) != 2*size-1 || subst.Size(l, x) != 2*size-1 || types.Depth(twice) != 2*deep+1 {
			t.Errorf("%s: Apply or Size", name)
		}
		if subst.Right(l) != (name != "wrong") || subst.Solved(l) || !subst.Solved(l[1:]) {
			t.Errorf("%s: Right or Solved", name)
		}
		both := subst.Then(l, l)
		if len(both) != 2 || !types.Same(both[0].Type, twice) || !subst.Alike(both, []api.Bind{bind(1, twice)}, 1) || subst.Alike(both, l, 1) {
			t.Errorf("%s: Then or Alike", name)
		}
		if only := subst.Only(l, 1); len(only) != 1 || !types.Same(only[0].Type, x) {
			t.Errorf("%s: Only", name)
		}
		if !subst.Solves(l, eq(x, x)) || subst.Solves(l, eq(v(1), x)) {
			t.Errorf("%s: Solves", name)
		}
	}
}

func TestExampleOfTheDocument(t *testing.T) {
	wantType(t, "'a for int", subst.Apply([]api.Bind{bind(0, number())}, arrow(v(0), v(1))), arrow(number(), v(1)))
}
