package mus

import (
	"slices"
	"sort"

	"pangram/api"
	"pangram/solve"
	"pangram/types"
)

// search is equations of which some are left out.
type search struct {
	l     []api.Eq
	left  []bool // by numbers: which of them are still there
	times int    // how many times equations were solved
}

// begin lets the equations of some numbers be there, or tells why they have no core.
func (s *search) begin(numbers []int) api.Errno {
	if !right(s.l) {
		return api.ErrArg
	}
	s.left = make([]bool, len(s.l))
	s.set(numbers, true)
	if s.solved() {
		return api.ErrNone
	}
	return api.OK
}

// leaveOut leaves out each equation of some numbers, from the first one on, without which what is left can't be solved, either.
// It does so by runs, not one by one, which comes to the same: what can't be solved can't be with more equations, either.
func (s *search) leaveOut(order []int) {
	for len(order) > 0 {
		run := s.run(order)
		s.set(order[:run], false)
		// Without the next one what is left can be solved: it stays.
		order = order[min(run+1, len(order)):]
	}
}

// run is how many equations of the first numbers can be left out together.
func (s *search) run(order []int) int {
	// By doubling, not by halves: where nearly all of them stay, it is hardly more often than one by one.
	beyond := 1
	for beyond <= len(order) && s.wrongWithout(order[:beyond]) {
		beyond *= 2
	}
	sure := beyond / 2
	between := min(beyond, len(order)+1) - sure - 1
	return sure + sort.Search(between, func(i int) bool {
		return !s.wrongWithout(order[:sure+i+1])
	})
}

// wrongWithout tells whether what is left can't be solved without the equations of some numbers, either.
func (s *search) wrongWithout(numbers []int) bool {
	s.set(numbers, false)
	wrong := !s.solved()
	s.set(numbers, true)
	return wrong
}

// set tells of the equations of some numbers whether they are there.
func (s *search) set(numbers []int, there bool) {
	for _, i := range numbers {
		s.left[i] = there
	}
}

// solved tells whether what is left can be solved.
func (s *search) solved() bool {
	s.times++
	return solved(s.l, func(i int) bool { return s.left[i] })
}

// rest is the numbers of what is left.
func (s *search) rest() []int {
	return slices.DeleteFunc(numbersOf(s.l), func(i int) bool { return !s.left[i] })
}

// solved tells whether those right equations can be solved of whose numbers a function tells that they are left.
func solved(l []api.Eq, left func(i int) bool) bool {
	var some []api.Eq
	for i, e := range l {
		if left(i) {
			some = append(some, e)
		}
	}
	return solve.Sat(some...) == api.OK
}

// right tells whether all sides of equations are.
func right(l []api.Eq) bool {
	return !slices.ContainsFunc(l, func(e api.Eq) bool {
		return !types.Right(e.L) || !types.Right(e.R)
	})
}
