package union_test

import (
	"math"
	"math/bits"
	"slices"
	"testing"

	"pangram/api"
	"pangram/union"
)

const most = 1 << 20

// made is a forest of so many elements.
func made(t *testing.T, n int) *union.Forest {
	t.Helper()
	f, e := union.New(n)
	if e != api.OK || f == nil {
		t.Fatalf("New(%d): %v, %v", n, f, e)
	}
	return f
}

// outside is numbers of which a forest of n elements has none.
func outside(n int) []int {
	return []int{-1, n, n + 1, math.MinInt, math.MaxInt, -n - 1, 1 << 32, math.MinInt + 1}
}

// labels is a second forest: each element's label is the least one of its set.
type labels []int

func labelled(n int) labels {
	l := make(labels, n)
	for i := range l {
		l[i] = i
	}
	return l
}

func (l labels) join(a, b int) bool {
	from, to := max(l[a], l[b]), min(l[a], l[b])
	for i := range l {
		if l[i] == from {
			l[i] = to
		}
	}
	return from != to
}

func (l labels) set(i int) []int {
	var set []int
	for j := range l {
		if l[j] == l[i] {
			set = append(set, j)
		}
	}
	return set
}

func (l labels) sets() int {
	n := 0
	for i := range l {
		if l[i] == i {
			n++
		}
	}
	return n
}

// hold holds all that a forest tells, but for its steps, against labels.
func hold(t *testing.T, what any, f *union.Forest, l labels) {
	t.Helper()
	if f.Len() != len(l) || f.Sets() != l.sets() {
		t.Fatalf("%v: Len %d, Sets %d, want %d, %d", what, f.Len(), f.Sets(), len(l), l.sets())
	}
	for i := range l {
		root, ok := f.Root(i)
		if !ok || root < 0 || root >= len(l) || l[root] != l[i] {
			t.Fatalf("%v: Root(%d): %d, %v", what, i, root, ok)
		}
		if got := f.Set(i); !slices.Equal(got, l.set(i)) {
			t.Fatalf("%v: Set(%d): %v, want %v", what, i, got, l.set(i))
		}
		for j := range l {
			if f.Same(i, j) != (l[i] == l[j]) {
				t.Fatalf("%v: Same(%d, %d) is wrong", what, i, j)
			}
			other, _ := f.Root(j)
			if (other == root) != (l[i] == l[j]) {
				t.Fatalf("%v: Root(%d) is %d, Root(%d) is %d", what, i, root, j, other)
			}
		}
	}
}

// eachRow hands all rows of so many of the joins of n elements to a function.
func eachRow(n, length int, row [][2]int, visit func(row [][2]int)) {
	if length == 0 {
		visit(row)
		return
	}
	for a := range n {
		for b := range n {
			eachRow(n, length-1, append(slices.Clone(row), [2]int{a, b}), visit)
		}
	}
}

// P9.1

func TestNew(t *testing.T) {
	for _, n := range []int{-1, most + 1, math.MinInt, math.MaxInt, -most, 1 << 40} {
		if f, e := union.New(n); f != nil || e != api.ErrArg {
			t.Errorf("New(%d): %v, %v", n, f, e)
		}
	}
	for _, n := range []int{0, 1, 2, 7, most} {
		f := made(t, n)
		if f.Len() != n || f.Sets() != n || f.Steps() != 0 {
			t.Errorf("of %d: Len %d, Sets %d, Steps %d", n, f.Len(), f.Sets(), f.Steps())
		}
	}
	hold(t, "of none", made(t, 0), labelled(0))
	hold(t, "each alone", made(t, 6), labelled(6))
	a, b := made(t, 3), made(t, 3)
	a.Join(0, 1)
	hold(t, "another forest", b, labelled(3))
}

func TestAdd(t *testing.T) {
	f := made(t, 0)
	for i := range 5 {
		if got := f.Add(); got != i {
			t.Errorf("Add: %d, want %d", got, i)
		}
	}
	l := labelled(5)
	l.join(1, 3)
	f.Join(1, 3)
	if got := f.Add(); got != 5 {
		t.Errorf("Add behind a Join: %d", got)
	}
	l = append(l, 5)
	hold(t, "one more", f, l)
	f.Join(5, 3)
	l.join(5, 3)
	hold(t, "one more, joined", f, l)
}

func TestAddToMost(t *testing.T) {
	f := made(t, most-1)
	for i, want := range []int{most - 1, -1, -1} {
		if got := f.Add(); got != want {
			t.Errorf("Add number %d: %d, want %d", i, got, want)
		}
	}
	if f.Len() != most || f.Sets() != most {
		t.Errorf("Len %d, Sets %d", f.Len(), f.Sets())
	}
	if got := made(t, most).Add(); got != -1 {
		t.Errorf("Add to a forest of 2^20: %d", got)
	}
	if _, ok := f.Root(most); ok || f.Set(most) != nil {
		t.Error("there is an element 2^20")
	}
	if root, ok := f.Join(most-1, 0); !ok || !slices.Equal(f.Set(root), []int{0, most - 1}) {
		t.Error("the last element isn't joined")
	}
}

func TestOfElementsThatArentThere(t *testing.T) {
	for _, n := range []int{0, 1, 4} {
		f, l := made(t, n), labelled(n)
		if n == 4 {
			f.Join(1, 2)
			l.join(1, 2)
		}
		steps := f.Steps()
		for _, i := range outside(n) {
			if root, ok := f.Root(i); root != 0 || ok {
				t.Errorf("of %d: Root(%d): %d, %v", n, i, root, ok)
			}
			if set := f.Set(i); set != nil {
				t.Errorf("of %d: Set(%d): %v", n, i, set)
			}
			for _, j := range append(outside(n), 0, n-1) {
				for _, two := range [][2]int{{i, j}, {j, i}} {
					if root, joined := f.Join(two[0], two[1]); root != 0 || joined {
						t.Errorf("of %d: Join%v: %d, %v", n, two, root, joined)
					}
					if f.Same(two[0], two[1]) {
						t.Errorf("of %d: Same%v", n, two)
					}
				}
			}
		}
		if f.Steps() != steps {
			t.Errorf("of %d: %d steps were made", n, f.Steps()-steps)
		}
		hold(t, n, f, l)
	}
}

func TestJoin(t *testing.T) {
	f := made(t, 5)
	first, joined := f.Join(0, 2)
	if !joined || first != 0 && first != 2 {
		t.Errorf("of two alone: %d, %v", first, joined)
	}
	for _, two := range [][2]int{{0, 2}, {2, 0}, {0, 0}, {2, 2}} {
		if root, joined := f.Join(two[0], two[1]); root != first || joined {
			t.Errorf("of one set, %v: %d, %v, want %d", two, root, joined, first)
		}
	}
	if root, joined := f.Join(4, 4); root != 4 || joined {
		t.Errorf("of one that is alone, with itself: %d, %v", root, joined)
	}
	if f.Sets() != 4 {
		t.Errorf("Sets: %d", f.Sets())
	}
	for i := range 5 {
		root, _ := f.Root(i)
		if again, _ := f.Root(i); again != root {
			t.Errorf("Root(%d) was %d, is %d", i, root, again)
		}
	}
}

// All rows of up to five joins of three elements, and up to three of four, and what is told behind each join.
func TestAllShortRows(t *testing.T) {
	for _, c := range [][2]int{{1, 2}, {2, 3}, {3, 5}, {4, 3}} {
		n := c[0]
		eachRow(n, c[1], nil, func(row [][2]int) {
			f, l := made(t, n), labelled(n)
			for _, two := range row {
				a, b := two[0], two[1]
				root, joined := f.Join(a, b)
				if want := l.join(a, b); joined != want {
					t.Fatalf("%v: Join%v: %v, want %v", row, two, joined, want)
				}
				if now, ok := f.Root(b); !ok || now != root || l[root] != l[a] {
					t.Fatalf("%v: Join%v: %d, but Root is %d", row, two, root, now)
				}
			}
			hold(t, row, f, l)
		})
	}
}

// P9.2

func TestSetRises(t *testing.T) {
	const n = 1000
	f := made(t, n)
	// 7 has no divisor in common with 1000, so that each is come to.
	for i := range n {
		f.Join(i*7%n, (i+2)*7%n)
	}
	var even, odd []int
	for i := range n {
		if i%2 == 0 {
			even = append(even, i)
		} else {
			odd = append(odd, i)
		}
	}
	for _, i := range []int{0, 1, 2, 499, 500, 998, 999} {
		if want := [][]int{even, odd}[i%2]; !slices.Equal(f.Set(i), want) {
			t.Errorf("Set(%d): %v", i, f.Set(i))
		}
	}
	if f.Sets() != 2 || f.Len() != n {
		t.Errorf("Sets %d, Len %d", f.Sets(), f.Len())
	}
}

func TestSetIsNewMemory(t *testing.T) {
	f := made(t, 4)
	f.Join(0, 3)
	f.Join(3, 1)
	set := f.Set(1)
	for i := range set[:cap(set)] {
		set[:cap(set)][i] = 77
	}
	l := labelled(4)
	l.join(0, 3)
	l.join(3, 1)
	hold(t, "a set that is written into", f, l)
}

func TestCopy(t *testing.T) {
	f, l := made(t, 6), labelled(6)
	for _, two := range [][2]int{{0, 1}, {4, 5}, {1, 4}} {
		f.Join(two[0], two[1])
		l.join(two[0], two[1])
	}
	c := f.Copy()
	if c == f {
		t.Fatal("a copy is another forest")
	}
	if c.Steps() != f.Steps() {
		t.Errorf("Steps %d, of what was copied %d", c.Steps(), f.Steps())
	}
	for i := range 6 {
		root, _ := f.Root(i)
		if got, ok := c.Root(i); got != root || !ok {
			t.Errorf("Root(%d) %d, of what was copied %d", i, got, root)
		}
	}
	hold(t, "a copy", c, l)
	hold(t, "what was copied", f, l)

	copied := slices.Clone(l)
	c.Join(2, 3)
	c.Join(0, 3)
	c.Join(c.Add(), 5)
	copied = append(copied, 6)
	copied.join(2, 3)
	copied.join(0, 3)
	copied.join(6, 5)
	hold(t, "a copy that is joined on", c, copied)
	hold(t, "what it was made of", f, l)

	f.Join(2, f.Add())
	l = append(l, 6)
	l.join(2, 6)
	hold(t, "what is joined on", f, l)
	hold(t, "its copy", c, copied)
	hold(t, "a copy of none", made(t, 0).Copy(), labelled(0))
}

func TestNilForest(t *testing.T) {
	var f *union.Forest
	if got := f.Add(); got != -1 {
		t.Errorf("Add: %d", got)
	}
	for _, i := range []int{0, 1, -1, math.MaxInt, math.MinInt} {
		if root, ok := f.Root(i); root != 0 || ok {
			t.Errorf("Root(%d): %d, %v", i, root, ok)
		}
		if root, joined := f.Join(i, 0); root != 0 || joined {
			t.Errorf("Join(%d, 0): %d, %v", i, root, joined)
		}
		if f.Same(i, i) {
			t.Errorf("Same(%d, %d)", i, i)
		}
		if set := f.Set(i); set != nil {
			t.Errorf("Set(%d): %v", i, set)
		}
	}
	if f.Len() != 0 || f.Sets() != 0 || f.Steps() != 0 {
		t.Errorf("Len %d, Sets %d, Steps %d", f.Len(), f.Sets(), f.Steps())
	}
	if c := f.Copy(); c != nil {
		t.Errorf("Copy: %v", c)
	}
}

// P9.3

// counter does calls, and holds the steps behind each against the bound.
type counter struct {
	t     *testing.T
	f     *union.Forest
	calls int // each of Set counted as often as there are elements
	last  int
}

func (c *counter) check(what string) {
	c.t.Helper()
	steps := c.f.Steps()
	digits := max(1, bits.Len(uint(c.f.Len())))
	if bound := (c.calls + 1) * (4*digits + 8); steps < c.last || steps > bound {
		c.t.Fatalf("%s: %d steps behind %d calls, ahead %d, bound %d", what, steps, c.calls, c.last, bound)
	}
	c.last = steps
}

func (c *counter) join(a, b int) {
	c.calls++
	c.f.Join(a, b)
	c.check("Join")
}

func (c *counter) root(i int) {
	c.calls++
	c.f.Root(i)
	c.check("Root")
}

func (c *counter) same(a, b int) {
	c.calls++
	c.f.Same(a, b)
	c.check("Same")
}

func (c *counter) set(i int) {
	c.calls += c.f.Len()
	c.f.Set(i)
	c.check("Set")
}

// chains is ways to join all of n elements; roots hang deep, if they are joined without care.
func chains(n int) map[string]func(c *counter) {
	return map[string]func(c *counter){
		"to the last": func(c *counter) {
			for i := 1; i < n; i++ {
				c.join(i-1, i)
			}
		},
		"to the next": func(c *counter) {
			for i := 1; i < n; i++ {
				c.join(i, i-1)
			}
		},
		"backwards": func(c *counter) {
			for i := n - 1; i > 0; i-- {
				c.join(i, i-1)
			}
		},
		"backwards, the sides about": func(c *counter) {
			for i := n - 1; i > 0; i-- {
				c.join(i-1, i)
			}
		},
		"to the first": func(c *counter) {
			for i := 1; i < n; i++ {
				c.join(i, 0)
			}
		},
		"by halves": func(c *counter) {
			for width := 1; width < n; width *= 2 {
				for i := 0; i+width < n; i += 2 * width {
					c.join(i, i+width)
				}
			}
		},
		"by halves, the last ones": func(c *counter) {
			for width := 1; width < n; width *= 2 {
				for i := 0; i+width < n; i += 2 * width {
					c.join(min(i+2*width, n)-1, i+width-1)
				}
			}
		},
	}
}

func TestStepsWithinBound(t *testing.T) {
	for _, n := range []int{1, 2, 3, 7, 8, 100, 1 << 15} {
		for name, chain := range chains(n) {
			c := &counter{t: t, f: made(t, n)}
			c.check("New")
			chain(c)
			for i := range n {
				c.root(i)
				c.same(i, n-1-i)
			}
			c.set(0)
			c.set(n - 1)
			chain(c)
			if c.f.Sets() != 1 {
				t.Errorf("%d, %s: %d sets", n, name, c.f.Sets())
			}
		}
	}
}

// Each element is asked for once, behind joins that hang it as deep as may be.
func TestStepsOfOneCall(t *testing.T) {
	const n = 1 << 12
	f := made(t, n)
	chains(n)["by halves"](&counter{t: t, f: f})
	for i := range n {
		c := f.Copy()
		before := c.Steps()
		c.Root(i)
		if took, bound := c.Steps()-before, 4*bits.Len(n)+8; took > bound {
			t.Fatalf("Root(%d) takes %d steps, bound %d", i, took, bound)
		}
	}
}

func TestStepsOfFewElements(t *testing.T) {
	c := &counter{t: t, f: made(t, 0)}
	for range 100 {
		c.set(0)
		c.set(-1)
	}
	if c.calls != 0 {
		t.Fatal("Set of a forest without elements doesn't count")
	}
	for i := range 100 {
		c.f.Add()
		c.check("Add")
		c.join(i/2, i)
		c.set(i)
		c.set(i + 1)
	}
}

// Set is told often, of a set of all, and of those that are alone.
func TestStepsOfSet(t *testing.T) {
	const n = 300
	c := &counter{t: t, f: made(t, n)}
	for i := range n {
		c.set(i)
	}
	chains(n)["by halves"](c)
	for i := range n {
		c.set(i)
	}
}

// The calls take no more than the steps: a forest of 2^20 elements, all joined, and each one's root, and each one's set ahead of that.
func TestManyElements(t *testing.T) {
	f := made(t, most)
	for i := range most {
		if set := f.Set(i); len(set) != 1 || set[0] != i {
			t.Fatalf("Set(%d): %v", i, set)
		}
	}
	for i := 1; i < most; i++ {
		if _, joined := f.Join(i-1, i); !joined {
			t.Fatalf("Join(%d, %d)", i-1, i)
		}
	}
	root, _ := f.Root(0)
	for i := range most {
		if got, ok := f.Root(i); got != root || !ok {
			t.Fatalf("Root(%d): %d, %v", i, got, ok)
		}
	}
	set := f.Set(5)
	for i := range most {
		if len(set) != most || set[i] != i {
			t.Fatalf("Set: %d elements", len(set))
		}
	}
	if f.Sets() != 1 || f.Copy().Sets() != 1 {
		t.Errorf("Sets: %d", f.Sets())
	}
}

// The same calls in the same order have the same roots and steps; a copy goes on like what it was made of.
func TestSameCallsAnswerTheSame(t *testing.T) {
	const n = 60
	do := func(f *union.Forest) []int {
		var told []int
		for i := range n {
			root, _ := f.Join(i*i%n, (i*7+1)%n)
			other, _ := f.Root(i * 11 % n)
			told = append(told, root, other, f.Steps(), len(f.Set(i)))
		}
		return told
	}
	a, b := made(t, n), made(t, n)
	if !slices.Equal(do(a), do(b)) {
		t.Error("two forests")
	}
	c := a.Copy()
	a.Join(n-1, a.Add())
	c.Join(n-1, c.Add())
	if !slices.Equal(do(a), do(c)) {
		t.Error("a copy")
	}
}

// P9.4

func TestOrderOfJoins(t *testing.T) {
	joins := [][2]int{{0, 1}, {2, 3}, {1, 2}, {4, 5}, {3, 0}}
	l := labelled(7)
	for _, two := range joins {
		l.join(two[0], two[1])
	}
	permute(joins, 0, func(row [][2]int) {
		for about := range 1 << len(row) {
			f := made(t, 7)
			for i, two := range row {
				if about>>i&1 == 1 {
					two[0], two[1] = two[1], two[0]
				}
				f.Join(two[0], two[1])
			}
			if f.Sets() != l.sets() {
				t.Fatalf("%v: %d sets", row, f.Sets())
			}
			for i := range l {
				if !slices.Equal(f.Set(i), l.set(i)) {
					t.Fatalf("%v: Set(%d): %v", row, i, f.Set(i))
				}
			}
		}
	})
}

// permute hands a list in all orders, its first ones staying, to a function.
func permute(l [][2]int, first int, visit func(l [][2]int)) {
	if first == len(l) {
		visit(l)
		return
	}
	for i := first; i < len(l); i++ {
		l[first], l[i] = l[i], l[first]
		permute(l, first+1, visit)
		l[first], l[i] = l[i], l[first]
	}
}

func TestExampleOfTheDocument(t *testing.T) {
	f := made(t, 3)
	f.Join(0, 2)
	if !f.Same(2, 0) || f.Same(0, 1) || f.Sets() != 2 {
		t.Errorf("Same %v, %v, Sets %d", f.Same(2, 0), f.Same(0, 1), f.Sets())
	}
}
