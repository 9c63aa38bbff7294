package unify

import (
	"pangram/union"
)

// most is how many elements a forest may have.
const most = 1 << 20

// sets is numbers, from 0 on, in sets. There may be more of them than a forest has elements: each forest has those of a range of its own.
type sets struct {
	forests []*union.Forest
	all     int         // how many numbers there are
	outer   map[int]int // from the root of a forest's set to a number of a forest ahead, with which it is in one set
}

// add is one more number, alone.
func (s *sets) add() {
	if s.all%most == 0 {
		f, _ := union.New(0)
		s.forests = append(s.forests, f)
	}
	s.forests[s.all/most].Add()
	s.all++
}

// root is the root of a number's set.
func (s *sets) root(i int) int {
	first := s.inner(i)
	root := first
	for {
		ahead, ok := s.outer[root]
		if !ok {
			break
		}
		root = s.inner(ahead)
	}
	if root != first {
		// The next way from there is shorter.
		s.outer[first] = root
	}
	return root
}

// inner is the root of a number's set within its forest.
func (s *sets) inner(i int) int {
	root, _ := s.forests[i/most].Root(i % most)
	return i/most*most + root
}

// join makes the sets of two roots one, and answers its root.
func (s *sets) join(a, b int) int {
	if a/most == b/most {
		root, _ := s.forests[a/most].Join(a%most, b%most)
		return a/most*most + root
	}
	// Only ways to forests ahead are sure to end.
	s.outer[max(a, b)] = min(a, b)
	return min(a, b)
}

// steps is how many steps the forests made.
func (s *sets) steps() int {
	n := 0
	for _, f := range s.forests {
		n += f.Steps()
	}
	return n
}
