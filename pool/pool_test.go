package pool_test

import (
	"iter"
	"math"
	"math/rand/v2"
	"runtime"
	"slices"
	"strconv"
	"strings"
	"sync/atomic"
	"testing"
	"time"

	"pangram/api"
	"pangram/check"
	"pangram/pool"
)

// wide is limits that are as great as may be.
func wide() api.Limits {
	return api.Limits{Bytes: api.MaxLimit, Depth: api.MaxLimit, Eqs: api.MaxLimit}
}

// numbers is the numbers of workers that there may be.
func numbers() []int { return []int{1, 2, 3, 4, 5, 6, 7, 8} }

// same tells whether two verdicts are, with their steps.
func same(a, b api.Verdict) bool {
	return a.Kind == b.Kind && a.Scheme == b.Scheme && a.At == b.At && a.Limit == b.Limit &&
		slices.Equal(a.Core, b.Core) && slices.Equal(a.Slices, b.Slices) && a.Steps == b.Steps
}

// alone is the verdicts on texts, each checked by itself.
func alone(l api.Limits, texts ...string) []api.Verdict {
	var verdicts []api.Verdict
	for _, s := range texts {
		verdicts = append(verdicts, check.Check(s, l))
	}
	return verdicts
}

// kinds is how many of some verdicts are of each kind.
func kinds(verdicts []api.Verdict) [6]int {
	var n [6]int
	for _, v := range verdicts {
		n[v.Kind]++
	}
	return n
}

// places is n texts, each with a verdict that no other one has: number i's name isn't bound, at the byte i.
func places(n int) []string {
	var texts []string
	for i := range n {
		texts = append(texts, strings.Repeat(" ", i)+"x")
	}
	return texts
}

// slow is a text without a type, which takes some hundred times longer than the others.
func slow() string {
	const n = 25
	return "(" + strings.Repeat("(fun x -> x) (", n) + "true" + strings.Repeat(")", n) + " : int)"
}

// great is a text whose type is too great to be told.
func great() string {
	s := "x0"
	for i := 12; i >= 0; i-- {
		before := "1"
		if i > 0 {
			before = "(x" + strconv.Itoa(i-1) + ", x" + strconv.Itoa(i-1) + ")"
		}
		if i == 12 {
			s = "x12"
		}
		s = "let x" + strconv.Itoa(i) + " = " + before + " in " + s
	}
	return s
}

// mixed is texts of each kind, some with brackets, remarks and bytes that begin no token.
func mixed() []string {
	return []string{
		"fun x -> x", "x", "1 true", "if 1 then", "", great(), "((((1))))", "fun f -> (f 1, f true)", "$", "1",
		"let i = fun x -> x in (i 1, i true)", "fun x -> y", "fun x -> x x", "(1 : bool)", "let rec f = fun x -> f x in f",
		"# a remark", "(1, 2, 3, 4, 5, 6, 7, 8, 9)", "\xff", "if true then 1 else false", "1",
		strings.Repeat("(", 3000) + "1" + strings.Repeat(")", 3000), strings.Repeat("fun x -> ", 5000) + "x", strings.Repeat(" ", 9999),
	}
}

// someLimits is limits that none of the mixed texts hits, and some that some of them do.
func someLimits() []api.Limits {
	l := []api.Limits{wide(), {Bytes: 1, Depth: 1, Eqs: 1}}
	for _, n := range []int{2, 4, 10, 30} {
		one, two, three := wide(), wide(), wide()
		one.Bytes, two.Depth, three.Eqs = n, n, n
		l = append(l, one, two, three)
	}
	return l
}

// want wants verdicts of all calls, by a number of workers.
func want(t *testing.T, workers int, l api.Limits, texts []string, verdicts []api.Verdict) {
	t.Helper()
	got, e := pool.Run(workers, l, texts...)
	if e != api.OK || !slices.EqualFunc(got, verdicts, same) {
		t.Errorf("Run by %d under %v: %v, %+v; want %+v", workers, l, e, got, verdicts)
	}
	n, e := pool.Count(workers, l, texts...)
	if e != api.OK || n != kinds(verdicts) {
		t.Errorf("Count by %d under %v: %v, %v; want %v", workers, l, e, n, kinds(verdicts))
	}
	next := 0
	for i, v := range pool.Each(workers, l, texts...) {
		if i != next || i >= len(verdicts) || !same(v, verdicts[i]) {
			t.Errorf("Each by %d under %v: behind %d: %d, %+v", workers, l, next, i, v)
			break
		}
		next++
	}
	if next != len(verdicts) {
		t.Errorf("Each by %d under %v: %d verdicts of %d", workers, l, next, len(verdicts))
	}
	for kind := range 7 {
		ofKind := func(v api.Verdict) bool { return v.Kind == kind }
		first := slices.IndexFunc(verdicts, ofKind)
		i, found := pool.First(workers, l, ofKind, texts...)
		if found != (first >= 0) || i != max(first, 0) {
			t.Errorf("First of the kind %d by %d under %v: %d, %t; want %d", kind, workers, l, i, found, first)
		}
	}
}

// settled waits till no goroutines are left but a test's own and the one that waits for it, and is how many there are.
func settled() int {
	for range 300 {
		if runtime.NumGoroutine() <= 2 {
			break
		}
		time.Sleep(time.Millisecond)
	}
	return runtime.NumGoroutine()
}

// idle waits till there are no more goroutines than n, and tells whether that came.
func idle(n int) bool {
	for range 2000 {
		if runtime.NumGoroutine() <= n {
			return true
		}
		time.Sleep(time.Millisecond)
	}
	return false
}

// Run, Count, and what all calls have in common

func TestExample(t *testing.T) {
	verdicts, e := pool.Run(2, wide(), "x", "1")
	if e != api.OK || len(verdicts) != 2 || verdicts[0].Kind != api.VScope || verdicts[1].Kind != api.VScheme {
		t.Errorf("%v, %+v", e, verdicts)
	}
	if verdicts[0].At != (api.Span{From: 0, To: 1}) || verdicts[1].Scheme != "int" {
		t.Errorf("%+v", verdicts)
	}
}

func TestEachKind(t *testing.T) {
	l := api.Limits{Bytes: 20, Depth: 3, Eqs: 9}
	texts := []string{"fun x -> x", "1 )", "x", "(1, y)", "((((1))))", "1 true", "2", strings.Repeat("1", 21), "(1, 1, 1, 1, 1, 1)", "$", "(1 : int)"}
	wanted := []api.Verdict{
		{Kind: api.VScheme, Scheme: "'a -> 'a"}, {Kind: api.VSyntax, At: api.Span{From: 2, To: 3}}, {Kind: api.VScope, At: api.Span{From: 0, To: 1}},
		{Kind: api.VScope, At: api.Span{From: 4, To: 5}}, {Kind: api.VLimit, Limit: api.LDepth}, {Kind: api.VType, Core: []int{0, 2}, Slices: []api.Span{{From: 0, To: 6}}},
		{Kind: api.VScheme, Scheme: "int"}, {Kind: api.VLimit, Limit: api.LBytes}, {Kind: api.VScheme, Scheme: "(int * int * int * int * int * int)"},
		{Kind: api.VSyntax, At: api.Span{From: 0, To: 1}}, {Kind: api.VScheme, Scheme: "int"},
	}
	for _, workers := range numbers() {
		verdicts, e := pool.Run(workers, l, texts...)
		if e != api.OK || !slices.EqualFunc(verdicts, wanted, check.Same) {
			t.Errorf("by %d: %v, %+v", workers, e, verdicts)
		}
		n, e := pool.Count(workers, l, texts...)
		if e != api.OK || n != [6]int{0, 4, 2, 2, 2, 1} {
			t.Errorf("by %d: %v, %v", workers, e, n)
		}
		want(t, workers, l, texts, alone(l, texts...))
	}
}

func TestKindsOfWhichThereAreNone(t *testing.T) {
	for text, kind := range map[string]int{"1": 1, "": 2, "y": 3, great(): 4, "1 1": 5} {
		for _, workers := range numbers() {
			for _, many := range []int{1, 2, 9, 30} {
				var wanted [6]int
				wanted[kind] = many
				n, e := pool.Count(workers, wide(), slices.Repeat([]string{text}, many)...)
				if e != api.OK || n != wanted {
					t.Errorf("%d of %.20q by %d: %v, %v", many, text, workers, e, n)
				}
			}
		}
	}
}

func TestMixed(t *testing.T) {
	texts := mixed()
	for _, l := range someLimits() {
		verdicts := alone(l, texts...)
		for _, workers := range numbers() {
			want(t, workers, l, texts, verdicts)
		}
	}
}

func TestNoTexts(t *testing.T) {
	for _, workers := range numbers() {
		want(t, workers, wide(), nil, nil)
		want(t, workers, wide(), []string{}, nil)
	}
}

func TestOneText(t *testing.T) {
	for _, s := range mixed() {
		for _, workers := range numbers() {
			want(t, workers, wide(), []string{s}, alone(wide(), s))
		}
	}
}

func TestManyTexts(t *testing.T) {
	for _, many := range []int{2, 7, 8, 9, 16, 17, 500} {
		texts := places(many)
		verdicts := alone(wide(), texts...)
		for _, workers := range numbers() {
			want(t, workers, wide(), texts, verdicts)
		}
	}
}

func TestSameTexts(t *testing.T) {
	for _, s := range mixed() {
		texts := slices.Repeat([]string{s}, 9)
		verdicts := slices.Repeat(alone(wide(), s), 9)
		for _, workers := range []int{1, 2, 8} {
			want(t, workers, wide(), texts, verdicts)
		}
	}
}

func TestOneFarSlowerText(t *testing.T) {
	const many = 6
	hard := check.Check(slow(), wide())
	if hard.Kind != api.VType || len(hard.Core) < 70 {
		t.Fatalf("%+v", hard)
	}
	for place := range many {
		texts := places(many)
		verdicts := alone(wide(), texts...)
		texts[place], verdicts[place] = slow(), hard
		for _, workers := range []int{1, 2, 3, 8} {
			want(t, workers, wide(), texts, verdicts)
		}
	}
}

// chance is a text of some words by chance.
func chance(r *rand.Rand) string {
	words := []string{"fun", "x", "y", "->", "let", "rec", "=", "in", "if", "then", "else", "(", ")", ",", ":", "int", "1", "true", "x", "1", "$"}
	shapes := []string{"fun x -> _", "let x = _ in _", "let rec x = _ in _", "(_ _)", "(_, _)", "if _ then _ else _", "(_ : int)", "x", "y", "1", "true"}
	if r.IntN(4) == 0 {
		var l []string
		for range r.IntN(8) {
			l = append(l, words[r.IntN(len(words))])
		}
		return strings.Join(l, " ")
	}
	s := "_"
	for range r.IntN(12) {
		s = strings.Replace(s, "_", shapes[r.IntN(len(shapes))], 1)
	}
	return strings.ReplaceAll(s, "_", []string{"x", "1", "true"}[r.IntN(3)])
}

func TestByChance(t *testing.T) {
	r := rand.New(rand.NewPCG(26, 1))
	var seen [6]int
	for range 400 {
		var texts []string
		for range r.IntN(30) {
			texts = append(texts, chance(r))
		}
		l := wide()
		if r.IntN(2) == 0 {
			l = api.Limits{Bytes: 1 + r.IntN(60), Depth: 1 + r.IntN(8), Eqs: 1 + r.IntN(30)}
		}
		verdicts := alone(l, texts...)
		for kind, n := range kinds(verdicts) {
			seen[kind] += n
		}
		want(t, 1+r.IntN(8), l, texts, verdicts)
	}
	if slices.Min(seen[1:]) < 100 {
		t.Errorf("kinds: %v", seen)
	}
}

// what may not be

// wantNone wants that all calls tell that what they were given may not be.
func wantNone(t *testing.T, workers int, l api.Limits, texts ...string) {
	t.Helper()
	if verdicts, e := pool.Run(workers, l, texts...); e != api.ErrArg || len(verdicts) != 0 {
		t.Errorf("Run by %d under %v: %v, %+v", workers, l, e, verdicts)
	}
	if n, e := pool.Count(workers, l, texts...); e != api.ErrArg || n != [6]int{} {
		t.Errorf("Count by %d under %v: %v, %v", workers, l, e, n)
	}
	asked := 0
	i, found := pool.First(workers, l, func(api.Verdict) bool { asked++; return true }, texts...)
	if i != 0 || found || asked != 0 {
		t.Errorf("First by %d under %v: %d, %t, asked %d", workers, l, i, found, asked)
	}
	for i, v := range pool.Each(workers, l, texts...) {
		t.Errorf("Each by %d under %v: %d, %+v", workers, l, i, v)
	}
}

func TestWorkersAndLimits(t *testing.T) {
	right := map[int]bool{math.MinInt: false, -8: false, -1: false, 0: false, 9: false, 10: false, 16: false, math.MaxInt: false}
	for _, workers := range numbers() {
		right[workers] = true
	}
	limits := map[int]bool{math.MinInt: false, -1: false, 0: false, 1: true, 20: true, 1 << 30: true, 1<<30 + 1: false, math.MaxInt: false}
	for workers, may := range right {
		for n, isLimit := range limits {
			for _, l := range []api.Limits{{Bytes: n, Depth: 9, Eqs: 9}, {Bytes: 9, Depth: n, Eqs: 9}, {Bytes: 9, Depth: 9, Eqs: n}, {Bytes: n, Depth: n, Eqs: n}} {
				for _, texts := range [][]string{nil, {"1"}, {"x", "1", "1 true", "", "fun x -> x"}} {
					if may && isLimit {
						want(t, workers, l, texts, alone(l, texts...))
					} else {
						wantNone(t, workers, l, texts...)
					}
				}
			}
		}
	}
	wantNone(t, 0, api.Limits{}, "1")
}

func TestFunctionsThatMayNotBe(t *testing.T) {
	for _, workers := range numbers() {
		if i, found := pool.First(workers, wide(), nil, "1", "2"); i != 0 || found {
			t.Errorf("none, by %d: %d, %t", workers, i, found)
		}
		asked := 0
		panicky := func(v api.Verdict) bool {
			asked++
			if v.Kind != api.VScope {
				panic(v.Kind)
			}
			return true
		}
		if i, found := pool.First(workers, wide(), panicky, "1", "1 true", "x", "2"); i != 2 || !found {
			t.Errorf("one that panics, by %d: %d, %t", workers, i, found)
		}
		if i, found := pool.First(workers, wide(), panicky, "1", "1 true", "2"); i != 0 || found {
			t.Errorf("one that panics always, by %d: %d, %t", workers, i, found)
		}
		if asked != 6 {
			t.Errorf("one that panics, by %d: asked %d times", workers, asked)
		}
	}
}

// First

func TestFirst(t *testing.T) {
	const many = 12
	texts := places(many)
	for _, c := range []struct {
		what string
		hold []int
	}{
		{"none", nil}, {"the first", []int{0}}, {"the second", []int{1}}, {"one between", []int{5}}, {"the last", []int{many - 1}},
		{"some", []int{3, 4, 9}}, {"first and last", []int{0, many - 1}}, {"the last two", []int{many - 2, many - 1}},
	} {
		is := func(v api.Verdict) bool { return slices.Contains(c.hold, v.At.From) }
		wanted := 0
		if len(c.hold) > 0 {
			wanted = c.hold[0]
		}
		for _, workers := range numbers() {
			i, found := pool.First(workers, wide(), is, texts...)
			if i != wanted || found != (len(c.hold) > 0) {
				t.Errorf("%s, by %d: %d, %t", c.what, workers, i, found)
			}
		}
	}
	for _, workers := range numbers() {
		if i, found := pool.First(workers, wide(), func(api.Verdict) bool { return true }, texts...); i != 0 || !found {
			t.Errorf("all, by %d: %d, %t", workers, i, found)
		}
	}
}

// The text of the least number is the last one whose verdict comes.
func TestFirstThatComesLate(t *testing.T) {
	for place := range 4 {
		texts := slices.Concat(slices.Repeat([]string{"1"}, place), []string{slow()}, slices.Repeat([]string{"1 true"}, 20))
		for _, workers := range []int{1, 2, 8} {
			i, found := pool.First(workers, wide(), func(v api.Verdict) bool { return v.Kind == api.VType }, texts...)
			if i != place || !found {
				t.Errorf("behind %d, by %d: %d, %t", place, workers, i, found)
			}
			i, found = pool.First(workers, wide(), func(v api.Verdict) bool { return v.Kind == api.VType && len(v.Core) < 70 }, texts...)
			if i != place+1 || !found {
				t.Errorf("not the slow one at %d, by %d: %d, %t", place, workers, i, found)
			}
		}
	}
}

func TestHowOftenItIsAsked(t *testing.T) {
	const many = 40
	texts := places(many)
	texts[0] = slow()
	verdicts := alone(wide(), texts...)
	for _, workers := range numbers() {
		for _, hold := range []int{0, 1, 7, many - 1, many} {
			var asking atomic.Int32
			var asked [many]int
			i, found := pool.First(workers, wide(), func(v api.Verdict) bool {
				if asking.Add(1) != 1 {
					t.Errorf("up to %d, by %d: asked by several at once", hold, workers)
				}
				defer asking.Add(-1)
				runtime.Gosched()
				at := slices.IndexFunc(verdicts, func(w api.Verdict) bool { return same(v, w) })
				if at < 0 {
					t.Errorf("up to %d, by %d: asked of %+v", hold, workers, v)
					return false
				}
				asked[at]++
				return at >= hold
			}, texts...)
			if hold < many && (i != hold || !found) || hold == many && (i != 0 || found) {
				t.Errorf("up to %d, by %d: %d, %t", hold, workers, i, found)
			}
			for at, n := range asked {
				if n > 1 || n < 1 && at <= hold {
					t.Errorf("up to %d, by %d: asked %d times of %d", hold, workers, n, at)
				}
			}
		}
	}
}

// What a function answers may hang on how often it was asked: the answer is still the same by however many workers.
func TestFirstWhoseAnswersHangOnTheLast(t *testing.T) {
	texts := slices.Concat([]string{slow()}, places(30))
	for _, workers := range numbers() {
		n := 0
		i, found := pool.First(workers, wide(), func(api.Verdict) bool { n++; return n == 5 }, texts...)
		if i != 4 || !found || n != 5 {
			t.Errorf("by %d: %d, %t, asked %d times", workers, i, found, n)
		}
	}
}

func TestFirstWithinFirst(t *testing.T) {
	texts := places(9)
	for _, workers := range numbers() {
		i, found := pool.First(workers, wide(), func(v api.Verdict) bool {
			j, ok := pool.First(workers, wide(), func(w api.Verdict) bool { return same(v, w) }, texts...)
			return ok && j == 6
		}, texts...)
		if i != 6 || !found {
			t.Errorf("by %d: %d, %t", workers, i, found)
		}
	}
}

// Each

func TestLeftOff(t *testing.T) {
	const many = 12
	texts := places(many)
	texts[2] = slow()
	verdicts := alone(wide(), texts...)
	for _, workers := range numbers() {
		for behind := range many {
			had := 0
			for i, v := range pool.Each(workers, wide(), texts...) {
				if i != had || !same(v, verdicts[i]) {
					t.Errorf("by %d: %d, %+v", workers, i, v)
				}
				had++
				if i == behind {
					break
				}
			}
			if had != behind+1 {
				t.Errorf("left off behind %d, by %d: %d", behind, workers, had)
			}
		}
	}
}

func TestLeftOffAheadOfAll(t *testing.T) {
	for _, workers := range numbers() {
		here := settled()
		each := pool.Each(workers, wide(), places(12)...)
		if each == nil || runtime.NumGoroutine() > here {
			t.Errorf("by %d: workers ahead of all", workers)
		}
		_, stop := iter.Pull2(each)
		stop()
		next, stop := iter.Pull2(each)
		if i, v, ok := next(); i != 0 || !ok || v.Kind != api.VScope {
			t.Errorf("by %d: %d, %+v, %t", workers, i, v, ok)
		}
		stop()
		if i, v, ok := next(); i != 0 || ok || !same(v, api.Verdict{}) {
			t.Errorf("by %d, left off: %d, %+v, %t", workers, i, v, ok)
		}
		if !idle(here) {
			t.Errorf("by %d: workers are left", workers)
		}
	}
}

func TestRangedOverTwice(t *testing.T) {
	texts := []string{"1 true", slow(), "x", "fun x -> x x", "1", "(1 : bool)"}
	verdicts := alone(wide(), texts...)
	for _, workers := range numbers() {
		each := pool.Each(workers, wide(), texts...)
		for i := range each {
			if i == 2 {
				break
			}
		}
		for range 2 {
			next := 0
			for i, v := range each {
				if i != next || !same(v, verdicts[i]) {
					t.Errorf("by %d: %d, %+v", workers, i, v)
				}
				next++
				for j := range v.Core {
					v.Core[j] = -1
				}
				for j := range v.Slices {
					v.Slices[j] = api.Span{}
				}
			}
			if next != len(texts) {
				t.Errorf("by %d: %d verdicts", workers, next)
			}
		}
	}
}

func TestRangedOverWithinItself(t *testing.T) {
	texts := places(7)
	for _, workers := range []int{1, 2, 8} {
		each := pool.Each(workers, wide(), texts...)
		var got []int
		for i := range each {
			for j, v := range each {
				if v.At.From != j {
					t.Errorf("by %d: %d within %d: %+v", workers, j, i, v)
				}
				got = append(got, 7*i+j)
			}
		}
		if len(got) != 49 || !slices.IsSorted(got) || got[48] != 48 {
			t.Errorf("by %d: %v", workers, got)
		}
	}
}

func TestEachOfWhatMayNotBe(t *testing.T) {
	for _, each := range []iter.Seq2[int, api.Verdict]{
		pool.Each(0, wide(), "1"), pool.Each(9, wide(), "1"), pool.Each(-1, api.Limits{}, "1"), pool.Each(1, api.Limits{}, "1"),
		pool.Each(8, api.Limits{Bytes: 1, Depth: 1, Eqs: api.MaxLimit + 1}, "1"), pool.Each(9, wide()),
	} {
		for range 2 {
			for i, v := range each {
				t.Errorf("%d, %+v", i, v)
			}
		}
	}
}

// what is handed in, and what is answered

func TestTextsThatAreChangedLater(t *testing.T) {
	for _, workers := range numbers() {
		texts := places(20)
		each := pool.Each(workers, wide(), texts...)
		clear(texts)
		for range 2 {
			for i, v := range each {
				if v.Kind != api.VScope || v.At.From != i {
					t.Errorf("by %d: %d, %+v", workers, i, v)
				}
			}
		}
		texts = places(20)
		for i, v := range pool.Each(workers, wide(), texts...) {
			clear(texts)
			if v.Kind != api.VScope || v.At.From != i {
				t.Errorf("by %d, changed between: %d, %+v", workers, i, v)
			}
		}
		texts = places(20)
		i, found := pool.First(workers, wide(), func(v api.Verdict) bool { clear(texts); return v.At.From == 17 }, texts...)
		if i != 17 || !found {
			t.Errorf("by %d, changed by who is asked: %d, %t", workers, i, found)
		}
	}
}

func TestWhatIsHandedInStays(t *testing.T) {
	for _, workers := range numbers() {
		room := append(mixed(), "room", "more room")
		before := slices.Clone(room)
		texts := room[:len(room)-2]
		want(t, workers, wide(), texts, alone(wide(), texts...))
		if !slices.Equal(room, before) {
			t.Errorf("by %d: changed", workers)
		}
	}
}

func TestAnswersShareNothing(t *testing.T) {
	texts := slices.Repeat([]string{"fun f -> (f 1, f true)"}, 12)
	wanted := check.Check(texts[0], wide())
	for _, workers := range numbers() {
		first, _ := pool.Run(workers, wide(), texts...)
		second, _ := pool.Run(workers, wide(), texts...)
		l := append(first, second...)
		for i, v := range l {
			if !same(v, wanted) {
				t.Fatalf("by %d: %d: %+v", workers, i, v)
			}
			for j := range v.Core {
				v.Core[j] = -1
			}
			for j := range v.Slices {
				v.Slices[j] = api.Span{}
			}
		}
	}
}

// workers

func TestHowManyWorkers(t *testing.T) {
	for _, many := range []int{1, 2, 5, 8, 30} {
		texts := slices.Repeat([]string{"1 true"}, many)
		for _, workers := range numbers() {
			here := settled()
			most := min(workers, many)
			for i := range pool.Each(workers, wide(), texts...) {
				if n := runtime.NumGoroutine() - here; n != most {
					t.Errorf("%d texts by %d: behind %d there are %d", many, workers, i, n)
				}
			}
			if !idle(here) {
				t.Fatalf("%d texts by %d: workers are left", many, workers)
			}
			if _, e := pool.Run(workers, wide(), texts...); e != api.OK || !idle(here) {
				t.Fatalf("Run of %d texts by %d: %v, workers are left", many, workers, e)
			}
			if _, e := pool.Count(workers, wide(), texts...); e != api.OK || !idle(here) {
				t.Fatalf("Count of %d texts by %d: %v, workers are left", many, workers, e)
			}
			if _, found := pool.First(workers, wide(), func(v api.Verdict) bool { return true }, texts...); !found || !idle(here) {
				t.Fatalf("First of %d texts by %d: workers are left", many, workers)
			}
		}
	}
}

// checking tells whether a text is being checked, by whichever goroutine.
func checking() bool {
	stacks := make([]byte, 1<<20)
	return strings.Contains(string(stacks[:runtime.Stack(stacks, true)]), "pangram/check.Check(")
}

// No text is being checked any more when a call answers, however hard those are that were begun.
func TestAllAreWaitedFor(t *testing.T) {
	texts := slices.Concat([]string{"1"}, slices.Repeat([]string{slow()}, 30))
	seen := 0
	for _, workers := range numbers() {
		for range pool.Each(workers, wide(), texts...) {
			if checking() {
				seen++
			}
			break
		}
		if checking() {
			t.Errorf("Each by %d: texts are being checked", workers)
		}
		pool.First(workers, wide(), func(v api.Verdict) bool { return v.Kind == api.VScheme }, texts...)
		if checking() {
			t.Errorf("First by %d: texts are being checked", workers)
		}
		ranged(pool.Each(workers, wide(), texts...), func(int) { panic("left") })
		if checking() {
			t.Errorf("Each by %d, behind a panic: texts are being checked", workers)
		}
	}
	if seen == 0 {
		t.Error("no text was being checked meanwhile")
	}
}

func TestNoWorkersWhereNoneMayBe(t *testing.T) {
	here := settled()
	for range 50 {
		wantNone(t, 9, wide(), places(9)...)
		wantNone(t, 8, api.Limits{}, places(9)...)
		if runtime.NumGoroutine() > here {
			t.Fatal("workers are left")
		}
	}
}

// ranged ranges, and answers what a body panicked with.
func ranged(each iter.Seq2[int, api.Verdict], body func(i int)) (with any) {
	defer func() { with = recover() }()
	for i := range each {
		body(i)
	}
	return nil
}

func TestBodiesThatPanic(t *testing.T) {
	texts := places(20)
	texts[1], texts[5] = slow(), slow()
	for _, workers := range numbers() {
		here := settled()
		each := pool.Each(workers, wide(), texts...)
		for _, at := range []int{0, 1, 4, 19} {
			last := -1
			with := ranged(each, func(i int) {
				last = i
				if i == at {
					panic(at)
				}
			})
			if with != at || last != at {
				t.Errorf("by %d: %v behind %d", workers, with, last)
			}
			if !idle(here) {
				t.Errorf("by %d: workers are left", workers)
			}
		}
	}
}

func TestThoseWhoEndWithin(t *testing.T) {
	texts := places(20)
	texts[3] = slow()
	for _, workers := range numbers() {
		here := settled()
		ended := make(chan bool)
		go func() {
			defer func() { ended <- true }()
			for range pool.Each(workers, wide(), texts...) {
				runtime.Goexit()
			}
		}()
		go func() {
			defer func() { ended <- true }()
			pool.First(workers, wide(), func(v api.Verdict) bool {
				runtime.Goexit()
				return true
			}, texts...)
		}()
		<-ended
		<-ended
		if !idle(here) {
			t.Errorf("by %d: workers are left", workers)
		}
	}
}

// Pools don't know of each other.
func TestManyPools(t *testing.T) {
	texts := mixed()
	verdicts := alone(wide(), texts...)
	ended := make(chan bool)
	for _, workers := range numbers() {
		go func() {
			want(t, workers, wide(), texts, verdicts)
			ended <- true
		}()
	}
	for range numbers() {
		<-ended
	}
}
