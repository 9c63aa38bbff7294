package scheme_test

import (
	"maps"
	"math"
	"math/rand/v2"
	"runtime/debug"
	"slices"
	"strings"
	"testing"

	"pangram/api"
	"pangram/scheme"
	"pangram/signature"
	"pangram/subst"
	"pangram/types"
)

const deep = 1 << 16 // levels: calls within calls as deep would take more than the stack that TestDeepTypes gives

const greatest = 1<<30 - 1 // the last variable

func typ(kind, n int, parts ...api.Type) api.Type {
	return api.Type{Kind: kind, N: n, Parts: parts}
}

func v(n int) api.Type { return typ(api.TVar, n) }

func arrow(a, b api.Type) api.Type { return typ(api.TArrow, 0, a, b) }

func tuple(parts ...api.Type) api.Type { return typ(api.TTuple, 0, parts...) }

func truth() api.Type { return typ(api.TBool, 0) }

func number() api.Type { return typ(api.TInt, 0) }

func many(n int, t api.Type) []api.Type { return slices.Repeat([]api.Type{t}, n) }

func bind(n int, t api.Type) api.Bind { return api.Bind{Var: n, Type: t} }

func list(l ...api.Type) []api.Type { return l }

// all is the scheme of a type for all of some variables.
func all(t api.Type, vars ...int) scheme.Scheme { return scheme.Scheme{Vars: vars, Type: t} }

// wrongTypes is types that aren't right, by what is wrong with them.
func wrongTypes() map[string]api.Type {
	return map[string]api.Type{
		"the zero one":                 {},
		"a kind above 5":               typ(6, 0),
		"a variable below 0":           v(-1),
		"a variable of 2^30":           v(1 << 30),
		"a variable with a part":       typ(api.TVar, 0, v(0)),
		"int with a number":            typ(api.TInt, 1),
		"int with a part":              typ(api.TInt, 0, v(0)),
		"an arrow of one part":         typ(api.TArrow, 0, v(0)),
		"a tuple of one part":          tuple(v(0)),
		"a tuple of nine parts":        tuple(many(9, v(0))...),
		"a wrong part behind others":   tuple(v(0), arrow(v(0), number()), v(-1)),
		"a wrong part, further inside": arrow(v(0), tuple(truth(), arrow(tuple(v(1)), truth()))),
	}
}

// wrongSchemes is schemes that aren't right, by what is wrong with them.
func wrongSchemes() map[string]scheme.Scheme {
	three := tuple(v(4), arrow(v(0), v(4)), v(2))
	wrong := map[string]scheme.Scheme{
		"the zero scheme":             {},
		"twice":                       all(three, 4, 4),
		"twice, another one between":  all(three, 4, 0, 4),
		"all of them, one twice":      all(three, 4, 0, 2, 2),
		"another order":               all(three, 0, 4),
		"another order of three":      all(three, 4, 2, 0),
		"rising, not as they stand":   all(three, 0, 2, 4),
		"not in the type":             all(three, 1),
		"not in the type, behind":     all(three, 4, 0, 2, 3),
		"not in the type, ahead":      all(three, 3, 4, 0, 2),
		"not in the type, between":    all(three, 4, 1, 2),
		"below 0":                     all(three, -1),
		"of a type without any":       all(arrow(number(), truth()), 0),
		"the number of int":           all(number(), 0),
		"far below, far above":        all(three, math.MinInt, math.MaxInt),
		"as they come from the right": all(arrow(v(0), v(1)), 1, 0),
	}
	for name, t := range wrongTypes() {
		wrong[name] = all(t)
		wrong[name+", for all"] = all(t, types.Vars(t)...)
	}
	return wrong
}

// told is a scheme as a text, as it is.
func told(s scheme.Scheme) string {
	text := "for all"
	for _, n := range s.Vars {
		text += " " + types.Name(n)
	}
	return text + ": " + types.Print(s.Type)
}

func same(a, b scheme.Scheme) bool {
	return slices.Equal(a.Vars, b.Vars) && types.Same(a.Type, b.Type)
}

func isZero(s scheme.Scheme) bool {
	return s.Vars == nil && s.Type.Kind == 0 && s.Type.N == 0 && s.Type.Parts == nil
}

// second ways, by calls within calls

// rightly tells whether a scheme is right.
func rightly(s scheme.Scheme) bool {
	at := -1
	for _, n := range s.Vars {
		place := slices.Index(types.Vars(s.Type), n)
		if place <= at {
			return false
		}
		at = place
	}
	return types.Right(s.Type)
}

// freely is the free variables of a right scheme.
func freely(s scheme.Scheme) []int {
	return slices.DeleteFunc(types.Vars(s.Type), func(n int) bool { return slices.Contains(s.Vars, n) })
}

// renamed is a type whose variables of one list are those of another one.
func renamed(t api.Type, from, to []int) api.Type {
	if at := slices.Index(from, t.N); t.Kind == api.TVar && at >= 0 {
		return v(to[at])
	}
	parts := slices.Clone(t.Parts)
	for i := range parts {
		parts[i] = renamed(parts[i], from, to)
	}
	return typ(t.Kind, t.N, parts...)
}

// canonical is the canonical form of a right scheme.
func canonical(s scheme.Scheme) scheme.Scheme {
	var names []int
	for n := 0; len(names) < len(s.Vars); n++ {
		if !slices.Contains(freely(s), n) {
			names = append(names, n)
		}
	}
	return all(renamed(s.Type, s.Vars, names), names...)
}

// comes tells whether a type comes of another one, some variables of which are known to be types, others of which may be any, and the others themselves.
func comes(of, t api.Type, may []int, known map[int]api.Type) bool {
	if of.Kind == api.TVar && slices.Contains(may, of.N) {
		was, ok := known[of.N]
		known[of.N] = t
		return !ok || types.Same(was, t)
	}
	if of.Kind != t.Kind || of.N != t.N || len(of.Parts) != len(t.Parts) {
		return false
	}
	for i := range of.Parts {
		if !comes(of.Parts[i], t.Parts[i], may, known) {
			return false
		}
	}
	return true
}

func instance(s scheme.Scheme, t api.Type) bool {
	return comes(s.Type, t, s.Vars, map[int]api.Type{})
}

// printed is the text of a scheme that is its own canonical form.
func printed(s scheme.Scheme) string {
	text := ""
	for i, n := range s.Vars {
		if i > 0 {
			text += " "
		}
		text += types.Name(n)
	}
	if text != "" {
		text += ". "
	}
	return text + types.Print(s.Type)
}

// smallTypes is right types of at most two levels.
func smallTypes() []api.Type {
	alone := []api.Type{v(0), v(1), v(2), number()}
	l := append(slices.Clone(alone), truth(), tuple(v(0), v(1), v(2)), tuple(v(2), v(0), v(1)), tuple(v(1), arrow(v(0), v(1)), v(3)))
	for _, a := range alone {
		for _, b := range alone {
			l = append(l, arrow(a, b))
		}
	}
	return l
}

// smallLists is all lists of at most so many numbers from 0 to 3.
func smallLists(most int) [][]int {
	l := [][]int{nil}
	if most == 0 {
		return l
	}
	for _, ahead := range smallLists(most - 1) {
		for n := range 4 {
			l = append(l, append(slices.Clone(ahead), n))
		}
	}
	return l
}

// smallSchemes is schemes of small types, right ones.
func smallSchemes() []scheme.Scheme {
	var l []scheme.Scheme
	seen := map[string]bool{}
	for _, t := range smallTypes() {
		for _, vars := range smallLists(4) {
			s := all(t, vars...)
			if rightly(s) && !seen[told(s)] {
				seen[told(s)] = true
				l = append(l, s)
			}
		}
	}
	return l
}

// chance gives types and schemes, the same ones whenever the tests run.
type chance struct{ *rand.Rand }

func begin(n uint64) chance { return chance{rand.New(rand.NewPCG(n, 16))} }

func (c chance) typ(vars, depth int) api.Type {
	n := c.IntN(12)
	switch {
	case n < 5 || depth == 0:
		return v(c.IntN(vars))
	case n == 5:
		return number()
	case n < 10:
		return arrow(c.typ(vars, depth-1), c.typ(vars, depth-1))
	}
	parts := make([]api.Type, 2+c.IntN(2)*c.IntN(2))
	for i := range parts {
		parts[i] = c.typ(vars, depth-1)
	}
	return tuple(parts...)
}

func (c chance) scheme(vars, depth int) scheme.Scheme {
	t := c.typ(vars, depth)
	return all(t, slices.DeleteFunc(types.Vars(t), func(int) bool { return c.IntN(3) == 0 })...)
}

// P16.1

func TestRight(t *testing.T) {
	three := tuple(v(4), arrow(v(0), v(4)), v(2))
	for name, s := range map[string]scheme.Scheme{
		"without Vars":           all(three),
		"an empty list of Vars":  {Vars: []int{}, Type: three},
		"all":                    all(three, 4, 0, 2),
		"the first one":          all(three, 4),
		"the last one":           all(three, 2),
		"the first and the last": all(three, 4, 2),
		"without variables":      all(number()),
		"the last variable":      all(arrow(v(greatest), v(0)), greatest, 0),
		"a variable alone":       all(v(7), 7),
	} {
		if !scheme.Right(s) {
			t.Errorf("%s: isn't right", name)
		}
	}
	for name, s := range wrongSchemes() {
		if scheme.Right(s) {
			t.Errorf("%s: is right", name)
		}
	}
}

func TestRightOfSmallOnes(t *testing.T) {
	for _, x := range slices.AppendSeq(smallTypes(), maps.Values(wrongTypes())) {
		for _, vars := range smallLists(4) {
			if s := all(x, vars...); scheme.Right(s) != rightly(s) {
				t.Fatalf("%s: %v", told(s), scheme.Right(s))
			}
		}
	}
}

func TestClose(t *testing.T) {
	three := tuple(v(4), arrow(v(0), v(4)), v(2))
	for name, c := range map[string]struct {
		t      api.Type
		around []api.Type
		vars   []int
	}{
		"none around":                    {three, nil, []int{4, 0, 2}},
		"others around":                  {three, list(v(1), arrow(v(3), number()), v(77)), []int{4, 0, 2}},
		"the first one":                  {three, list(v(4)), []int{0, 2}},
		"one further inside":             {three, list(number(), arrow(truth(), tuple(v(9), v(0)))), []int{4, 2}},
		"in several ones":                {three, list(v(2), v(5), arrow(v(4), v(4))), []int{0}},
		"all around":                     {three, list(v(2), v(0), v(4)), nil},
		"the type itself":                {three, list(three), nil},
		"without variables":              {arrow(number(), truth()), list(v(0)), nil},
		"one that isn't right":           {three, list(v(-1), typ(9, 4), arrow(v(2), v(-3))), []int{4, 0}},
		"a variable with parts":          {three, list(typ(api.TVar, 4, v(0))), []int{2}},
		"int's number, not a variable's": {three, list(typ(api.TInt, 4)), []int{4, 0, 2}},
		"the zero type":                  {three, list(api.Type{}), []int{4, 0, 2}},
		"the last variable":              {arrow(v(greatest), v(3)), list(v(3)), []int{greatest}},
	} {
		got := scheme.Close(c.t, c.around...)
		if !same(got, all(c.t, c.vars...)) || !scheme.Right(got) || len(c.vars) == 0 && got.Vars != nil {
			t.Errorf("%s: %s, want %s", name, told(got), told(all(c.t, c.vars...)))
		}
	}
	for name, wrong := range wrongTypes() {
		for _, around := range [][]api.Type{nil, list(v(0)), list(wrong), list(number(), v(-1))} {
			if got := scheme.Close(wrong, around...); !isZero(got) {
				t.Errorf("%s: %s", name, told(got))
			}
		}
	}
}

func TestCloseOfSmallOnes(t *testing.T) {
	around := append(smallTypes(), api.Type{}, typ(api.TVar, 1, v(0)), tuple(v(2)), typ(api.TInt, 1))
	for _, x := range smallTypes() {
		for _, a := range around {
			for _, b := range around {
				want := slices.DeleteFunc(types.Vars(x), func(n int) bool { return types.Has(a, n) || types.Has(b, n) })
				if got := scheme.Close(x, a, b); !same(got, all(x, want...)) {
					t.Fatalf("%s, around %v and %v: %s", types.Print(x), a, b, told(got))
				}
			}
		}
	}
}

func TestFree(t *testing.T) {
	three := tuple(v(4), arrow(v(0), v(4)), v(2))
	for name, c := range map[string]struct {
		s    scheme.Scheme
		want []int
	}{
		"all":              {all(three, 4, 0, 2), nil},
		"none":             {all(three), []int{4, 0, 2}},
		"the first one":    {all(three, 4), []int{0, 2}},
		"the second one":   {all(three, 0), []int{4, 2}},
		"two":              {all(three, 4, 2), []int{0}},
		"no variables":     {all(number()), nil},
		"not right, Vars":  {all(three, 2, 4), nil},
		"not right, type":  {all(tuple(v(0))), nil},
		"the last one":     {all(v(greatest)), []int{greatest}},
		"the last one, no": {all(v(greatest), greatest), nil},
	} {
		if got := scheme.Free(c.s); !slices.Equal(got, c.want) || len(c.want) == 0 && got != nil {
			t.Errorf("%s: %v, want %v", name, got, c.want)
		}
	}
	for name, s := range wrongSchemes() {
		if got := scheme.Free(s); got != nil {
			t.Errorf("%s: %v", name, got)
		}
	}
	for _, s := range smallSchemes() {
		if got := scheme.Free(s); !slices.Equal(got, freely(s)) {
			t.Errorf("%s: %v", told(s), got)
		}
	}
}

// wantFresh wants a type and a number.
func wantFresh(t *testing.T, s scheme.Scheme, next int, want api.Type) {
	t.Helper()
	got, after, e := scheme.Fresh(s, next)
	if e != api.OK || after != next+len(s.Vars) || !types.Same(got, want) {
		t.Fatalf("%s, from %d on: %s, %d, %v, want %s", told(s), next, types.Print(got), after, e, types.Print(want))
	}
}

// wantNotFresh wants an error.
func wantNotFresh(t *testing.T, s scheme.Scheme, next int, want api.Errno) {
	t.Helper()
	got, after, e := scheme.Fresh(s, next)
	if e != want || after != 0 || got.Kind != 0 || got.N != 0 || got.Parts != nil {
		t.Fatalf("%s, from %d on: %v, %d, %v, want %v", told(s), next, got, after, e, want)
	}
}

func TestFresh(t *testing.T) {
	three := tuple(v(4), arrow(v(0), v(4)), v(2))
	for _, c := range []struct {
		s    scheme.Scheme
		next int
		want api.Type
	}{
		{all(three, 4, 0, 2), 10, tuple(v(10), arrow(v(11), v(10)), v(12))},
		{all(three, 4, 2), 10, tuple(v(10), arrow(v(0), v(10)), v(11))},
		{all(three, 0), 0, tuple(v(4), arrow(v(0), v(4)), v(2))},
		{all(three, 2), 9, tuple(v(4), arrow(v(0), v(4)), v(9))},
		{all(three), 10, three},
		// At once: what comes in isn't called anew, nor kept from being one that is free.
		{all(three, 4, 0, 2), 0, tuple(v(0), arrow(v(1), v(0)), v(2))},
		{all(three, 4, 0, 2), 2, tuple(v(2), arrow(v(3), v(2)), v(4))},
		{all(three, 4, 0, 2), 4, tuple(v(4), arrow(v(5), v(4)), v(6))},
		{all(three, 4, 0), 1, tuple(v(1), arrow(v(2), v(1)), v(2))},
		{all(arrow(v(0), v(1)), 0, 1), 1, arrow(v(1), v(2))},
		{all(v(greatest), greatest), 0, v(0)},
		// The last numbers that there are.
		{all(three, 4, 0, 2), 1<<30 - 3, tuple(v(1<<30-3), arrow(v(1<<30-2), v(1<<30-3)), v(greatest))},
		{all(three, 0), greatest, tuple(v(4), arrow(v(greatest), v(4)), v(2))},
		{all(three), greatest, three},
		{all(three), 1 << 30, three},
		{all(number()), 0, number()},
		{all(number()), 1 << 30, number()},
	} {
		wantFresh(t, c.s, c.next, c.want)
	}
	for _, next := range []int{-1, math.MinInt, 1<<30 - 2, 1 << 30, 1<<30 + 1, 1 << 40, math.MaxInt - 3, math.MaxInt - 2, math.MaxInt} {
		wantNotFresh(t, all(three, 4, 0, 2), next, api.ErrRange)
	}
	for _, next := range []int{-1, math.MinInt, 1<<30 + 1, math.MaxInt} {
		wantNotFresh(t, all(three), next, api.ErrRange)
		wantNotFresh(t, all(number()), next, api.ErrRange)
	}
	for name, s := range wrongSchemes() {
		for _, next := range []int{0, 10, 1 << 30, -1, math.MinInt, math.MaxInt} {
			if got, after, e := scheme.Fresh(s, next); e != api.ErrArg || after != 0 || got.Kind != 0 || got.N != 0 || got.Parts != nil {
				t.Errorf("%s, from %d on: %v, %d, %v", name, next, got, after, e)
			}
		}
	}
	for _, s := range smallSchemes() {
		for next := range 5 {
			var names []int
			for i := range s.Vars {
				names = append(names, next+i)
			}
			wantFresh(t, s, next, renamed(s.Type, s.Vars, names))
		}
	}
}

// P16.2

func TestInstance(t *testing.T) {
	pair := arrow(v(0), arrow(v(1), v(0)))
	for name, c := range map[string]struct {
		s    scheme.Scheme
		t    api.Type
		want bool
	}{
		"itself":                               {all(pair, 0, 1), pair, true},
		"itself, without Vars":                 {all(pair), pair, true},
		"other types":                          {all(pair, 0, 1), arrow(number(), arrow(truth(), number())), true},
		"other variables":                      {all(pair, 0, 1), arrow(v(7), arrow(v(8), v(7))), true},
		"one variable for two":                 {all(pair, 0, 1), arrow(v(7), arrow(v(7), v(7))), true},
		"changed about":                        {all(pair, 0, 1), arrow(v(1), arrow(v(0), v(1))), true},
		"its own within itself":                {all(pair, 0, 1), arrow(arrow(v(0), v(1)), arrow(v(0), arrow(v(0), v(1)))), true},
		"unlike at two places":                 {all(pair, 0, 1), arrow(number(), arrow(truth(), truth())), false},
		"another kind":                         {all(pair, 0, 1), tuple(v(0), arrow(v(1), v(0))), false},
		"a variable alone":                     {all(pair, 0, 1), v(0), false},
		"a free one, itself":                   {all(pair, 1), arrow(v(0), arrow(number(), v(0))), true},
		"a free one would be another one":      {all(pair, 1), arrow(v(2), arrow(number(), v(2))), false},
		"a free one would be int":              {all(pair, 1), arrow(number(), arrow(v(1), number())), false},
		"a free one, the other place":          {all(pair, 1), arrow(v(0), arrow(v(0), v(1))), false},
		"a free one would be a Var":            {all(pair, 0), arrow(v(0), arrow(v(0), v(0))), false},
		"a Var would be the free one":          {all(pair, 0), arrow(v(1), arrow(v(1), v(1))), true},
		"free ones changed about":              {all(arrow(v(0), v(1))), arrow(v(1), v(0)), false},
		"without Vars, other types":            {all(v(0)), number(), false},
		"without variables":                    {all(number()), number(), true},
		"without variables, another one":       {all(number()), truth(), false},
		"for all, any":                         {all(v(0), 0), tuple(many(8, v(0))...), true},
		"a tuple of another number":            {all(tuple(v(0), v(1)), 0, 1), tuple(v(0), v(1), v(2)), false},
		"less than a type's own":               {all(arrow(v(0), number()), 0), arrow(number(), v(0)), false},
		"a type that isn't right":              {all(v(0), 0), tuple(v(0)), false},
		"a type that isn't right, itself":      {all(v(0), 0), api.Type{}, false},
		"a type that isn't right, deep inside": {all(v(0), 0), arrow(number(), arrow(v(-1), truth())), false},
	} {
		if got := scheme.Instance(c.s, c.t); got != c.want {
			t.Errorf("%s: %v", name, got)
		}
	}
	for name, s := range wrongSchemes() {
		if scheme.Instance(s, s.Type) || scheme.Instance(s, number()) || scheme.Instance(s, v(0)) {
			t.Errorf("%s: has an instance", name)
		}
	}
	for name, wrong := range wrongTypes() {
		if scheme.Instance(all(v(0), 0), wrong) || scheme.Instance(all(wrong), wrong) {
			t.Errorf("%s: is an instance", name)
		}
	}
}

// substituted hands what comes of a type, by all substitutions of variables by some types, to a function.
func substituted(t api.Type, vars []int, visit func(t api.Type)) {
	by := []api.Type{v(0), v(1), v(9), number(), arrow(v(1), v(9)), tuple(v(0), v(0)), arrow(number(), number())}
	var further func(l []api.Bind)
	further = func(l []api.Bind) {
		if len(l) == len(vars) {
			visit(subst.Apply(l, t))
			return
		}
		for _, x := range by {
			further(append(slices.Clip(l), bind(vars[len(l)], x)))
		}
	}
	further(nil)
}

func TestInstancesOfSmallOnes(t *testing.T) {
	by := append(smallTypes(), arrow(arrow(v(0), v(1)), v(2)), arrow(v(1), arrow(v(0), v(1))), tuple(number(), number(), number()), tuple(number(), v(2), v(0)))
	for _, s := range smallSchemes() {
		for _, x := range by {
			if got := scheme.Instance(s, x); got != instance(s, x) {
				t.Fatalf("%s, %s: %v", told(s), types.Print(x), got)
			}
		}
		substituted(s.Type, s.Vars, func(x api.Type) {
			if !scheme.Instance(s, x) {
				t.Fatalf("%s: %s is none", told(s), types.Print(x))
			}
		})
	}
}

func TestMore(t *testing.T) {
	for name, c := range map[string]struct {
		a, b scheme.Scheme
		want bool
	}{
		"itself":                            {all(arrow(v(0), v(1)), 0, 1), all(arrow(v(0), v(1)), 0, 1), true},
		"itself, without Vars":              {all(arrow(v(0), v(1))), all(arrow(v(0), v(1))), true},
		"other names":                       {all(arrow(v(0), v(1)), 0, 1), all(arrow(v(5), v(3)), 5, 3), true},
		"names changed about":               {all(arrow(v(0), v(1)), 0, 1), all(arrow(v(1), v(0)), 1, 0), true},
		"one for two":                       {all(arrow(v(0), v(1)), 0, 1), all(arrow(v(0), v(0)), 0), true},
		"two for one":                       {all(arrow(v(0), v(0)), 0), all(arrow(v(0), v(1)), 0, 1), false},
		"a type":                            {all(arrow(v(0), v(0)), 0), all(arrow(number(), number())), true},
		"of a type":                         {all(arrow(number(), number())), all(arrow(v(0), v(0)), 0), false},
		"free in b":                         {all(arrow(v(0), v(0)), 0), all(arrow(v(3), v(3))), true},
		"free in b, the same name":          {all(arrow(v(0), v(0)), 0), all(arrow(v(0), v(0))), true},
		"free in a, one of b's Vars":        {all(arrow(v(0), v(0))), all(arrow(v(0), v(0)), 0), false},
		"free in a, and in b":               {all(arrow(v(0), v(1)), 1), all(arrow(v(0), number())), true},
		"free in a, b's Vars others":        {all(arrow(v(0), v(1)), 1), all(arrow(v(0), v(5)), 5), true},
		"free in a, another one in b":       {all(arrow(v(0), v(1)), 1), all(arrow(v(2), v(5)), 5), false},
		"free in a, one of b's, others not": {all(tuple(v(0), v(1), v(2)), 2), all(tuple(v(0), v(1), v(2)), 1), false},
		"unlike":                            {all(arrow(v(0), v(1)), 0, 1), all(tuple(v(0), v(1)), 0, 1), false},
		"without variables":                 {all(number()), all(number()), true},
		"without variables, unlike":         {all(number()), all(truth()), false},
		"for all, any":                      {all(v(0), 0), all(tuple(v(0), v(1), arrow(v(2), v(0))), 0, 2), true},
	} {
		if got := scheme.More(c.a, c.b); got != c.want {
			t.Errorf("%s: %v", name, got)
		}
	}
	for name, wrong := range wrongSchemes() {
		if scheme.More(all(v(0), 0), wrong) || scheme.More(wrong, all(number())) || scheme.More(wrong, wrong) {
			t.Errorf("%s: is more, or has more", name)
		}
	}
}

func TestCanon(t *testing.T) {
	for name, c := range map[string]struct{ s, want scheme.Scheme }{
		"its own":                        {all(arrow(v(0), v(1)), 0, 1), all(arrow(v(0), v(1)), 0, 1)},
		"by where they stand":            {all(tuple(v(9), v(3), v(9), v(7)), 9, 3, 7), all(tuple(v(0), v(1), v(0), v(2)), 0, 1, 2)},
		"changed about":                  {all(arrow(v(1), v(0)), 1, 0), all(arrow(v(0), v(1)), 0, 1)},
		"without Vars":                   {all(arrow(v(5), v(3))), all(arrow(v(5), v(3)))},
		"without variables":              {all(number()), all(number())},
		"a free one has the least":       {all(arrow(v(0), v(5)), 5), all(arrow(v(0), v(1)), 1)},
		"free ones have the least":       {all(tuple(v(7), v(1), v(8), v(0), v(9)), 7, 8, 9), all(tuple(v(2), v(1), v(3), v(0), v(4)), 2, 3, 4)},
		"free ones between":              {all(tuple(v(7), v(3), v(8), v(1), v(9)), 7, 8, 9), all(tuple(v(0), v(3), v(2), v(1), v(4)), 0, 2, 4)},
		"a free one that isn't reached":  {all(tuple(v(7), v(2), v(8)), 7, 8), all(tuple(v(0), v(2), v(1)), 0, 1)},
		"a free one is the last":         {all(arrow(v(greatest), v(greatest-1)), greatest-1), all(arrow(v(greatest), v(0)), 0)},
		"into one another's old numbers": {all(tuple(v(1), v(2), v(0)), 1, 2, 0), all(tuple(v(0), v(1), v(2)), 0, 1, 2)},
		"an empty list of Vars":          {scheme.Scheme{Vars: []int{}, Type: v(3)}, all(v(3))},
	} {
		got := scheme.Canon(c.s)
		if !same(got, c.want) || len(c.want.Vars) == 0 && got.Vars != nil {
			t.Errorf("%s: %s, want %s", name, told(got), told(c.want))
		}
	}
	for name, s := range wrongSchemes() {
		if got := scheme.Canon(s); !isZero(got) {
			t.Errorf("%s: %s", name, told(got))
		}
	}
}

func TestAlike(t *testing.T) {
	for name, c := range map[string]struct {
		a, b scheme.Scheme
		want bool
	}{
		"itself":                     {all(arrow(v(0), v(1)), 0, 1), all(arrow(v(0), v(1)), 0, 1), true},
		"other names":                {all(arrow(v(0), v(1)), 0, 1), all(arrow(v(8), v(3)), 8, 3), true},
		"names changed about":        {all(arrow(v(0), v(1)), 0, 1), all(arrow(v(1), v(0)), 1, 0), true},
		"one for two":                {all(arrow(v(0), v(1)), 0, 1), all(arrow(v(0), v(0)), 0), false},
		"the same free ones":         {all(arrow(v(0), v(1)), 1), all(arrow(v(0), v(5)), 5), true},
		"unlike free ones":           {all(arrow(v(0), v(1)), 1), all(arrow(v(2), v(1)), 1), false},
		"unlike free ones, no Vars":  {all(v(0)), all(v(1)), false},
		"free ones changed about":    {all(arrow(v(0), v(1))), all(arrow(v(1), v(0))), false},
		"free, and for all":          {all(v(0)), all(v(0), 0), false},
		"other ones are free":        {all(arrow(v(0), v(1)), 0), all(arrow(v(0), v(1)), 1), false},
		"the free one, another name": {all(arrow(v(0), v(1)), 0), all(arrow(v(1), v(0)), 1), false},
		"unlike types":               {all(number()), all(truth()), false},
		"without variables":          {all(arrow(number(), truth())), all(arrow(number(), truth())), true},
	} {
		if scheme.Alike(c.a, c.b) != c.want || scheme.Alike(c.b, c.a) != c.want {
			t.Errorf("%s: isn't %v", name, c.want)
		}
	}
	for name, s := range wrongSchemes() {
		if scheme.Alike(s, s) || scheme.Alike(s, all(number())) || scheme.Alike(all(v(0), 0), s) || scheme.Alike(s, scheme.Scheme{}) || scheme.Alike(scheme.Scheme{}, s) {
			t.Errorf("%s: is alike", name)
		}
	}
}

// manyVars is the scheme of a type with so many variables, for all of which it stands.
func manyVars(n int) scheme.Scheme {
	t := number()
	var vars []int
	for i := range n {
		t = arrow(v(3*i+5), t)
		vars = append(vars, 3*i+5)
	}
	slices.Reverse(vars)
	return all(t, vars...)
}

func TestPrint(t *testing.T) {
	for _, c := range []struct {
		s    scheme.Scheme
		want string
	}{
		{all(number()), "int"},
		{all(v(0)), "'a"},
		{all(v(9)), "'j"},
		{all(v(0), 0), "'a. 'a"},
		{all(v(9), 9), "'a. 'a"},
		{all(arrow(v(9), v(4))), "'j -> 'e"},
		{all(arrow(v(9), v(4)), 9, 4), "'a 'b. 'a -> 'b"},
		{all(arrow(v(9), v(4)), 4), "'a. 'j -> 'a"},
		{all(arrow(v(0), v(4)), 4), "'b. 'a -> 'b"},
		{all(tuple(v(1), v(6), arrow(v(7), v(6)), v(0)), 6, 7), "'c 'd. ('b * 'c * ('d -> 'c) * 'a)"},
		{all(arrow(arrow(v(2), number()), tuple(v(2), truth())), 2), "'a. ('a -> int) -> ('a * bool)"},
		{all(v(greatest)), types.Name(greatest)},
		{manyVars(28), "'a 'b 'c 'd 'e 'f 'g 'h 'i 'j 'k 'l 'm 'n 'o 'p 'q 'r 's 't 'u 'v 'w 'x 'y 'z 'a1 'b1. 'a -> 'b -> 'c -> 'd -> 'e -> 'f -> 'g -> 'h -> 'i -> 'j -> 'k -> 'l -> 'm -> 'n -> 'o -> 'p -> 'q -> 'r -> 's -> 't -> 'u -> 'v -> 'w -> 'x -> 'y -> 'z -> 'a1 -> 'b1 -> int"},
	} {
		if got := scheme.Print(c.s); got != c.want {
			t.Errorf("%s: %q, want %q", told(c.s), got, c.want)
		}
	}
	for name, s := range wrongSchemes() {
		if got := scheme.Print(s); got != "" {
			t.Errorf("%s: %q", name, got)
		}
	}
}

func TestParse(t *testing.T) {
	for text, want := range map[string]scheme.Scheme{
		"int":                                all(number()),
		"'a":                                 all(v(0)),
		"'j":                                 all(v(9)),
		"'a. 'a":                             all(v(0), 0),
		"'b -> 'a":                           all(arrow(v(1), v(0))),
		"'a 'b. 'a -> 'b":                    all(arrow(v(0), v(1)), 0, 1),
		"'b. 'a -> 'b":                       all(arrow(v(0), v(1)), 1),
		"'b. 'b -> 'a":                       all(arrow(v(1), v(0)), 1),
		"'a. 'j -> 'a":                       all(arrow(v(9), v(0)), 0),
		"'c 'd. ('b * 'c * ('d -> 'c) * 'a)": all(tuple(v(1), v(2), arrow(v(3), v(2)), v(0)), 2, 3),
		"'a. ('a -> int) -> ('a * bool)":     all(arrow(arrow(v(0), number()), tuple(v(0), truth())), 0),
		types.Name(greatest):                 all(v(greatest)),
		"'a. 'a -> " + types.Name(greatest):  all(arrow(v(0), v(greatest)), 0),
	} {
		got, e := scheme.Parse(text)
		if e != api.OK || !same(got, want) || len(want.Vars) == 0 && got.Vars != nil {
			t.Errorf("%q: %s, %v, want %s", text, told(got), e, told(want))
		}
	}
}

func TestParseOfTextsThatAreNone(t *testing.T) {
	for _, text := range []string{
		"", " ", ".", ". ", ". int", " . int", "'",
		"'a . 'a", "'a.'a", "'a.  'a", " 'a. 'a", "'a. 'a ", "'a.\t'a", "'a.\n'a", "'a. 'a\n", "'a, 'a", "'a: 'a", "'a 'a",
		"'a  'b. 'a -> 'b", "'a 'b 'a -> 'b", "'a 'b 'a", "'a 'b.'a -> 'b", "'a\t'b. 'a -> 'b", "'a,'b. 'a -> 'b", "'a'b. 'a -> 'b", "'a 'b . 'a -> 'b", " 'a 'b. 'a -> 'b",
		"'b 'a. 'a -> 'b", "'b 'a. 'b -> 'a", "'a 'a. 'a", "'a 'a. 'a -> 'a", "'a 'b 'a. 'a -> 'b", "'a 'b 'b. 'a -> 'b",
		"'b. 'b", "'c. 'a -> 'c", "'a 'c. 'a -> 'c", "'b. 'c -> 'b", "'b 'c. 'b -> 'c", "'j. 'j -> 'j", "'a 'b. 'b -> 'a", "'a1. 'a1",
		"'b. 'a", "'a 'b. 'a", "'a. int", "'a. 'b", "'a 'b 'c. 'a -> 'b", "'c 'a 'b. 'a -> 'b", "'a 'c 'b. 'a -> 'b",
		"('a. 'a)", "'a. ('a)", "('a). 'a", "('a)", "'a. ('a -> 'a)", "'a. (('a * 'a))", "(int)", "(('a) -> 'a)", "'a. 'a -> ('a -> 'a)", "'a 'b. ('a -> 'b)",
		"'a. 'a.", "'a. 'a. 'a", "'a. 'b. 'a -> 'b", "'a. 'a. ", "int. 'a", "int. int", "a. 'a", "'A. 'A", "'. int", "'a. ", "'a.", "'a 'b.", "'a 'b. ", "'a. 'a -> ", "'a. -> 'a",
		"'a0. 'a0", "'a. 'a0", "'a01. 'a01", "'a. 'a -> 'a -> ", "'a.. 'a", "'a. . 'a", "..", "'a 'b. ('a * 'b", "'a. ('a * 'a * 'a * 'a * 'a * 'a * 'a * 'a * 'a)",
		"'a. Int", "'a. 'a -> INT", "'a. \x00", "\xff. 'a", "'a. '\xe4",
		"'a. 'a -> 'a10000000000000000000000000", "'m41297762. 'm41297762", types.Name(greatest) + ". int",
	} {
		got, e := scheme.Parse(text)
		if e != api.ErrForm || !isZero(got) {
			t.Errorf("%q: %s, %v", text, told(got), e)
		}
	}
}

// texts hands all texts of at most so many pieces to a function.
func texts(most int, ahead string, visit func(text string)) {
	visit(ahead)
	if most == 0 {
		return
	}
	for _, piece := range []string{"'a", "'b", "'c", " ", ". ", ".", " -> ", "int", "(", ")", " * "} {
		texts(most-1, ahead+piece, visit)
	}
}

// shortTexts hands all texts of a few pieces to a function.
func shortTexts(visit func(text string)) {
	texts(5, "", visit)
	for _, names := range []string{"'a 'b", "'a 'b. 'a -> ", "'a 'c. 'a -> ", "'b 'c. 'a -> ", "'b 'a. ", "'b. ("} {
		texts(4, names, visit)
	}
}

// Of all short texts those are read that are a canonical form's, and no others.
func TestParseOfShortTexts(t *testing.T) {
	read := map[string]bool{}
	shortTexts(func(text string) {
		s, e := scheme.Parse(text)
		if e != api.OK {
			if e != api.ErrForm || !isZero(s) {
				t.Fatalf("%q: %s, %v", text, told(s), e)
			}
			return
		}
		read[text] = true
		if !rightly(s) || !same(canonical(s), s) || printed(s) != text {
			t.Fatalf("%q: %s", text, told(s))
		}
	})
	shortTexts(func(text string) {
		if s := taken(text); rightly(s) && same(canonical(s), s) && printed(s) == text && !read[text] {
			t.Fatalf("%q isn't read", text)
		}
	})
	if len(read) < 100 {
		t.Errorf("%d texts are read", len(read))
	}
}

// taken is the scheme that a text might be of: all names that stand ahead of a point, and the type behind it.
func taken(text string) scheme.Scheme {
	names, rest, pointed := strings.Cut(text, ". ")
	if !pointed {
		names, rest = "", text
	}
	var s scheme.Scheme
	s.Type, _ = signature.Parse(rest)
	for _, name := range strings.Fields(names) {
		n, _ := signature.Number(name)
		s.Vars = append(s.Vars, n)
	}
	return s
}

// holdOne holds what is told of a right scheme against what comes a second way.
func holdOne(t *testing.T, s scheme.Scheme) {
	t.Helper()
	want := canonical(s)
	if got := scheme.Canon(s); !same(got, want) {
		t.Fatalf("Canon of %s: %s, want %s", told(s), told(got), told(want))
	}
	if got := scheme.Print(s); got != printed(want) {
		t.Fatalf("Print of %s: %q, want %q", told(s), got, printed(want))
	}
	if got, e := scheme.Parse(printed(want)); e != api.OK || !same(got, want) {
		t.Fatalf("Parse of %q: %s, %v", printed(want), told(got), e)
	}
	// As it is, a text is only read if it is that of its canonical form.
	if got, e := scheme.Parse(printed(s)); (e == api.OK) != same(s, want) || e == api.OK && !same(got, s) {
		t.Fatalf("Parse of %q: %s, %v", printed(s), told(got), e)
	}
	if !slices.Equal(scheme.Free(want), scheme.Free(s)) || !scheme.Alike(s, want) || !scheme.Right(want) {
		t.Fatalf("%s isn't alike %s", told(s), told(want))
	}
}

// holdTwo holds what is told of two right schemes against what comes a second way.
func holdTwo(t *testing.T, a, b scheme.Scheme) {
	t.Helper()
	if got := scheme.Alike(a, b); got != same(canonical(a), canonical(b)) {
		t.Fatalf("Alike of %s and %s: %v", told(a), told(b), got)
	}
	// What is for all may be called by numbers that stand nowhere else.
	fresh := renamed(b.Type, b.Vars, []int{900, 901, 902, 903, 904, 905, 906, 907, 908})
	if got := scheme.More(a, b); got != instance(a, fresh) {
		t.Fatalf("More of %s and %s: %v", told(a), told(b), got)
	}
}

func TestSmallSchemes(t *testing.T) {
	l := smallSchemes()
	for _, a := range l {
		holdOne(t, a)
		for _, b := range l {
			holdTwo(t, a, b)
		}
	}
}

func TestSchemesByChance(t *testing.T) {
	by := begin(1)
	more, alike := 0, 0
	for range 20000 {
		vars := 2 + by.IntN(6)
		a, b := by.scheme(vars, 3), by.scheme(vars, 2)
		holdOne(t, a)
		holdTwo(t, a, b)
		// One that comes of it, and one with other names.
		var l []api.Bind
		for _, n := range a.Vars {
			l = append(l, bind(n, by.typ(vars, 1)))
		}
		come := all(subst.Apply(l, a.Type))
		if !scheme.Instance(a, come.Type) {
			t.Fatalf("%s: %s is no instance", told(a), types.Print(come.Type))
		}
		c := scheme.Close(come.Type, list(v(by.IntN(vars)), by.typ(vars, 1))...)
		holdTwo(t, a, c)
		holdTwo(t, c, a)
		names := by.Perm(9)[:len(a.Vars)]
		if slices.ContainsFunc(names, func(n int) bool { return slices.Contains(freely(a), n) }) {
			continue
		}
		d := all(renamed(a.Type, a.Vars, names), names...)
		holdTwo(t, a, d)
		if scheme.More(a, c) {
			more++
		}
		if !scheme.Alike(a, d) || scheme.Print(a) != scheme.Print(d) {
			t.Fatalf("%s and %s", told(a), told(d))
		}
		alike++
	}
	if min(more, alike) < 1000 {
		t.Errorf("%d more, %d alike", more, alike)
	}
}

// P16.3

func TestWhatFollows(t *testing.T) {
	l := smallSchemes()
	for _, a := range l {
		for _, b := range l {
			if scheme.More(a, b) {
				substituted(b.Type, b.Vars, func(x api.Type) {
					if !scheme.Instance(a, x) {
						t.Fatalf("%s is more than %s, but %s", told(a), told(b), types.Print(x))
					}
				})
			}
			inOther := func(n int) bool { return slices.Contains(freely(a), n) || slices.Contains(freely(b), n) }
			free := slices.ContainsFunc(slices.Concat(a.Vars, b.Vars), inOther)
			if scheme.Alike(a, b) && !free && (!scheme.More(a, b) || !scheme.More(b, a)) {
				t.Fatalf("%s and %s are alike, but not more", told(a), told(b))
			}
		}
		if got, e := scheme.Parse(scheme.Print(a)); e != api.OK || !same(got, scheme.Canon(a)) {
			t.Fatalf("%s: printed and parsed: %s, %v", told(a), told(got), e)
		}
	}
}

// long and deep ones

func TestManyVars(t *testing.T) {
	const n = 1 << 16
	s := manyVars(n)
	if !scheme.Right(s) || !same(scheme.Close(s.Type, number()), s) || scheme.Free(s) != nil {
		t.Error("Right, Close or Free")
	}
	c := scheme.Canon(s)
	for i, m := range c.Vars {
		if m != i {
			t.Fatalf("Canon: %d: %d", i, m)
		}
	}
	fresh, next, e := scheme.Fresh(s, 1<<30-n)
	if e != api.OK || next != 1<<30 || types.Vars(fresh)[n-1] != greatest {
		t.Errorf("Fresh: %d, %v", next, e)
	}
	if _, _, e := scheme.Fresh(s, 1<<30-n+1); e != api.ErrRange {
		t.Errorf("Fresh: %v", e)
	}
	if !scheme.Instance(s, fresh) || !scheme.More(s, c) || !scheme.More(c, s) || !scheme.Alike(s, c) {
		t.Error("Instance, More or Alike")
	}
	if got, e := scheme.Parse(scheme.Print(s)); e != api.OK || !same(got, c) {
		t.Errorf("printed and parsed: %v", e)
	}
	half := all(s.Type, s.Vars[:n/2]...)
	if free := scheme.Free(half); len(free) != n/2 || !slices.Equal(free, s.Vars[n/2:]) || scheme.Alike(half, s) || scheme.More(half, s) || !scheme.More(s, half) {
		t.Error("half of them free")
	}
}

func TestDeepTypes(t *testing.T) {
	defer debug.SetMaxStack(debug.SetMaxStack(1 << 20))
	left, right, other := v(5), v(9), truth()
	for range deep {
		left, right, other = arrow(left, v(0)), arrow(right, v(0)), arrow(other, v(0))
	}
	a, b := scheme.Close(left, v(0)), all(right, 9)
	if !same(a, all(left, 5)) || !scheme.Right(b) || !slices.Equal(scheme.Free(b), []int{0}) {
		t.Error("Close, Right or Free")
	}
	if !scheme.Alike(a, b) || !scheme.More(a, b) || !scheme.Instance(a, other) || scheme.Instance(all(right, 9, 0), arrow(left, left)) {
		t.Error("Alike, More or Instance")
	}
	if got, next, e := scheme.Fresh(a, 9); e != api.OK || next != 10 || !types.Same(got, right) {
		t.Errorf("Fresh: %d, %v", next, e)
	}
	text := scheme.Print(b)
	if got, e := scheme.Parse(text); e != api.OK || !same(got, scheme.Canon(a)) || !strings.HasPrefix(text, "'b. ((") {
		t.Errorf("printed and parsed: %v", e)
	}
}

// rules 4, 6 and 7

// spoil writes into all that a type is made of, and into its spare room.
func spoil(t *api.Type) {
	parts := t.Parts[:cap(t.Parts)]
	for i := range parts {
		spoil(&parts[i])
	}
	*t = typ(9, 9)
}

// spoilVars writes into a list of numbers, and into its spare room.
func spoilVars(l []int) {
	l = l[:cap(l)]
	for i := range l {
		l[i] = -9
	}
}

func TestNothingIsShared(t *testing.T) {
	part := arrow(v(2), number())
	x := tuple(part, v(4), part, v(3))
	vars := append(make([]int, 0, 5), 2, 4)
	spare := vars[:5]
	spare[2], spare[3] = 77, 78
	s := scheme.Scheme{Vars: vars, Type: x}
	was := all(types.Copy(x), 2, 4)
	for name, do := range map[string]func() scheme.Scheme{
		"Close": func() scheme.Scheme { return scheme.Close(x, v(3)) },
		"Canon": func() scheme.Scheme { return scheme.Canon(s) },
		"Canon of what is its own": func() scheme.Scheme {
			return scheme.Canon(all(x))
		},
		"Fresh": func() scheme.Scheme {
			got, next, _ := scheme.Fresh(s, 9)
			return all(got, scheme.Free(s)[0], next)
		},
		"Fresh without Vars": func() scheme.Scheme {
			got, _, _ := scheme.Fresh(all(x), 9)
			return all(got, scheme.Free(all(x))...)
		},
		"Parse": func() scheme.Scheme {
			got, _ := scheme.Parse("'a 'b. (('a -> int) * 'b * ('a -> int) * 'c)")
			return got
		},
	} {
		want, got := do(), do()
		for i := range got.Type.Parts {
			spoil(&got.Type.Parts[i])
			for j := i + 1; j < len(got.Type.Parts); j++ {
				if !types.Same(got.Type.Parts[j], want.Type.Parts[j]) {
					t.Errorf("%s: parts share memory", name)
				}
			}
		}
		spoil(&got.Type)
		spoilVars(got.Vars)
		if !same(do(), want) || want.Type.Kind != api.TTuple {
			t.Errorf("%s: told anew it is %s", name, told(do()))
		}
		if !same(s, was) || spare[2] != 77 || spare[3] != 78 {
			t.Fatalf("%s: what was handed in is changed", name)
		}
	}
	free := scheme.Free(all(x))
	spoilVars(free)
	if !slices.Equal(scheme.Free(all(x)), []int{2, 4, 3}) {
		t.Error("Free")
	}
	around := append(make([]api.Type, 0, 3), v(2), part)
	around[:3][2] = truth()
	scheme.Close(x, around...)
	if !types.Same(around[0], v(2)) || !types.Same(around[1], part) || !types.Same(around[:3][2], truth()) {
		t.Error("what stands around is changed")
	}
}

func TestListsWithoutElements(t *testing.T) {
	empty := scheme.Scheme{Vars: []int{}, Type: api.Type{Kind: api.TInt, Parts: []api.Type{}}}
	plain := all(number())
	got, next, e := scheme.Fresh(empty, 3)
	if !scheme.Right(empty) || !scheme.Alike(empty, plain) || !scheme.More(plain, empty) || !scheme.More(empty, plain) || scheme.Print(empty) != "int" {
		t.Error("an empty list isn't none")
	}
	if e != api.OK || next != 3 || !types.Same(got, number()) {
		t.Errorf("Fresh: %v, %d, %v", got, next, e)
	}
}

func TestExampleOfTheDocument(t *testing.T) {
	if got := scheme.Print(scheme.Close(arrow(v(0), v(1)), v(1))); got != "'a. 'a -> 'b" {
		t.Errorf("%q", got)
	}
}
