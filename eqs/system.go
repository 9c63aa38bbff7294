package eqs

import (
	"slices"

	"pangram/api"
	"pangram/types"
)

// system is equations that are told while a right closed term is gone through.
type system struct {
	most   int  // how many there may be
	many   bool // whether there are more
	l      []equation
	next   int     // the variable that is taken next
	around []named // the outermost one first
}

// equation is an equation as it is told. A fixed one has a right side without variables, which stays the term's own memory till all are told:
// it may be great, and come once more again and again, only for too many equations at the end.
type equation struct {
	api.Eq
	fixed bool
}

// named is a name that is bound, and a function that tells what comes once more where the name is meant, and gives the variable that it stands for there.
type named struct {
	name  string
	means func() int
}

// place is a term that is being gone through.
type place struct {
	term  *api.Term
	own   int   // its own variable
	first int   // the one that is taken behind it
	from  int   // how many equations were told ahead of its own ones
	parts []int // the own variables of its parts, as far as these were gone to
}

// through tells a term's equations, as long as they aren't too many.
// Terms wait in a list: calls within calls would take a deep term's depth of the stack, which has an end.
func (s *system) through(t *api.Term) {
	for todo := []place{s.enter(t)}; len(todo) > 0 && !s.many; {
		p := &todo[len(todo)-1]
		part := len(p.parts)
		if part == len(p.term.Parts) {
			s.behind(p)
			todo = todo[:len(todo)-1]
			continue
		}
		s.ahead(p, part)
		inner := s.enter(&p.term.Parts[part])
		p.parts = append(p.parts, inner.own)
		todo = append(todo, inner)
	}
}

// enter begins to go through a term.
func (s *system) enter(t *api.Term) place {
	own := s.take()
	return place{term: t, own: own, first: s.next, from: len(s.l)}
}

// ahead does what comes ahead of a term's part.
func (s *system) ahead(p *place, part int) {
	x := p.term
	switch {
	case part == 0 && (x.Kind == api.Lam || x.Kind == api.Rec):
		binder := s.take()
		s.bind(x.Name, func() int { return binder })
	case part == 1 && x.Kind == api.Let:
		s.bind(x.Name, s.again(p))
	case part == 1 && x.Kind == api.Rec:
		s.unbind()
		s.equate(p.first, types.Var(p.parts[0]), x.At)
		s.bind(x.Name, s.again(p))
	}
}

// behind does what comes behind all parts of a term.
func (s *system) behind(p *place) {
	x, parts := p.term, p.parts
	switch x.Kind {
	case api.Int:
		s.fix(p.own, api.Type{Kind: api.TInt}, x.At)
	case api.Bool:
		s.fix(p.own, api.Type{Kind: api.TBool}, x.At)
	case api.Var:
		stands := s.nearest(x.Name)()
		s.equate(p.own, types.Var(stands), x.At)
	case api.Lam:
		s.unbind()
		s.equate(p.own, types.Arrow(variables(p.first, parts[0])...), x.At)
	case api.App:
		s.equate(parts[0], types.Arrow(variables(parts[1], p.own)...), x.At)
	case api.Let, api.Rec:
		s.unbind()
		s.equate(p.own, types.Var(parts[1]), x.At)
	case api.If:
		s.fix(parts[0], api.Type{Kind: api.TBool}, x.Parts[0].At)
		s.equate(p.own, types.Var(parts[1]), x.Parts[1].At)
		s.equate(p.own, types.Var(parts[2]), x.Parts[2].At)
	case api.Tuple:
		s.equate(p.own, api.Type{Kind: api.TTuple, Parts: variables(parts...)}, x.At)
	case api.Ann:
		s.fix(parts[0], x.Type, x.Parts[0].At)
		s.fix(p.own, x.Type, x.At)
	}
}

// again gives what a name means behind the first part of its Let, or Rec: what was told there, once more, with other variables.
func (s *system) again(p *place) func() int {
	first, behind := p.first, s.next
	from, to := p.from, len(s.l)
	return func() int {
		by := s.next - first
		s.next += behind - first
		for _, e := range s.l[from:to] {
			e.L = types.Shift(e.L, first, behind, by)
			if !e.fixed {
				e.R = types.Shift(e.R, first, behind, by)
			}
			s.tell(e)
		}
		return first + by
	}
}

// nearest is what a name means here.
func (s *system) nearest(name string) func() int {
	var means func() int
searching:
	for _, b := range slices.Backward(s.around) {
		if b.name == name {
			means = b.means
			break searching
		}
	}
	return means
}

// bind goes on to where a name means something.
func (s *system) bind(name string, means func() int) {
	s.around = append(s.around, named{name: name, means: means})
}

// unbind goes on behind where the nearest name is bound.
func (s *system) unbind() {
	s.around = s.around[:len(s.around)-1]
}

// take takes the next variable.
func (s *system) take() int {
	s.next++
	return s.next - 1
}

// equate tells that a variable is a type of variables.
func (s *system) equate(v int, t api.Type, at api.Span) {
	s.tell(equation{Eq: api.Eq{L: types.Var(v), R: t, At: at}})
}

// fix tells that a variable is a type without variables.
func (s *system) fix(v int, t api.Type, at api.Span) {
	s.tell(equation{Eq: api.Eq{L: types.Var(v), R: t, At: at}, fixed: true})
}

// tell tells an equation, if there may be one more.
func (s *system) tell(e equation) {
	if len(s.l) >= s.most {
		s.many = true
		return
	}
	s.l = append(s.l, e)
}

// variables is types that are variables.
func variables(numbers ...int) []api.Type {
	var l []api.Type
	for _, n := range numbers {
		l = append(l, types.Var(n))
	}
	return l
}
