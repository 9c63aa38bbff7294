package infer

import (
	"slices"

	"pangram/api"
	"pangram/types"
	"pangram/unify"
)

// inference is what is known of a right closed term's types while it is gone through.
// Where a name is meant that Let or Rec binds, not all equations come once more, which may double again and again, but only what they say of the type.
type inference struct {
	classes *unify.Closure
	wrong   bool         // whether there is no solution, as far as that is known
	next    int          // the variable that is taken next
	own     []int        // the terms' own variables, in order
	around  []named      // the outermost one first
	meant   []int        // variables that names stood for; of what a binder keeps only those from outside
	ground  map[int]bool // by the least variables of classes: what is known to stand for a type without variables
}

// named is a name that is bound, and a function that makes its type where it is meant, and gives the variable that stands for that.
type named struct {
	name  string
	means func() int
}

// place is a term that is being gone through.
type place struct {
	term  *api.Term
	own   int   // its own variable
	first int   // the one that is taken behind it
	meant int   // how many variables names stood for ahead of it
	parts []int // the own variables of its parts, as far as these were gone to
}

// through goes through a term, as long as there may be a solution.
// Terms wait in a list: calls within calls would take a deep term's depth of the stack, which has an end.
func (s *inference) through(t *api.Term) {
	for todo := []place{s.enter(t)}; len(todo) > 0 && !s.wrong; {
		p := &todo[len(todo)-1]
		part := len(p.parts)
		if part == len(p.term.Parts) {
			s.behind(p)
			todo = todo[:len(todo)-1]
			continue
		}
		s.ahead(p, part)
		inner := s.enter(&p.term.Parts[part])
		p.parts = append(p.parts, inner.own)
		todo = append(todo, inner)
	}
}

// enter begins to go through a term.
func (s *inference) enter(t *api.Term) place {
	own := s.take(1)
	s.own = append(s.own, own)
	return place{term: t, own: own, first: s.next, meant: len(s.meant)}
}

// ahead does what comes ahead of a term's part.
func (s *inference) ahead(p *place, part int) {
	x := p.term
	switch {
	case part == 0 && (x.Kind == api.Lam || x.Kind == api.Rec):
		binder := s.take(1)
		s.bind(x.Name, func() int { return binder })
	case part == 1 && x.Kind == api.Let:
		s.bind(x.Name, s.again(p))
	case part == 1 && x.Kind == api.Rec:
		s.unbind()
		s.equate(p.first, types.Var(p.parts[0]))
		s.bind(x.Name, s.again(p))
	}
}

// behind does what comes behind all parts of a term.
func (s *inference) behind(p *place) {
	x, parts := p.term, p.parts
	switch x.Kind {
	case api.Int:
		s.equate(p.own, api.Type{Kind: api.TInt})
	case api.Bool:
		s.equate(p.own, api.Type{Kind: api.TBool})
	case api.Var:
		stands := s.nearest(x.Name)()
		s.meant = append(s.meant, stands)
		s.equate(p.own, types.Var(stands))
	case api.Lam:
		s.unbind()
		s.equate(p.own, types.Arrow(variables(p.first, parts[0])...))
	case api.App:
		s.equate(parts[0], types.Arrow(variables(parts[1], p.own)...))
	case api.Let, api.Rec:
		s.unbind()
		s.equate(p.own, types.Var(parts[1]))
	case api.If:
		s.equate(parts[0], api.Type{Kind: api.TBool})
		s.equate(p.own, types.Var(parts[1]))
		s.equate(p.own, types.Var(parts[2]))
	case api.Tuple:
		s.equate(p.own, api.Type{Kind: api.TTuple, Parts: variables(parts...)})
	case api.Ann:
		s.equate(parts[0], x.Type)
		s.equate(p.own, types.Var(parts[0]))
	}
}

// again gives what a name means behind the first part of its Let, or Rec: that one's type, with other variables each time for those that stand nowhere around.
func (s *inference) again(p *place) func() int {
	own := p.parts[0]
	k := s.keep(own, s.outside(p))
	count := len(k.types)
	if count == 0 {
		return func() int { return own }
	}
	return func() int {
		first := s.take(count)
		for i, t := range k.types {
			s.equate(first+i, types.Shift(t, k.first, k.first+count, first-k.first))
		}
		s.meant = append(s.meant, k.fixed...)
		return first + count - 1
	}
}

// outside is the variables from outside of a term that names within it stood for, each once. Its own ones are forgotten: whatever is around it, they aren't from outside of that.
func (s *inference) outside(p *place) []int {
	l := slices.DeleteFunc(s.meant[p.meant:], func(v int) bool { return v >= p.first })
	slices.Sort(l)
	l = slices.Compact(l)
	s.meant = s.meant[:p.meant+len(l)]
	return l
}

// nearest is what a name means here.
func (s *inference) nearest(name string) func() int {
	for _, b := range slices.Backward(s.around) {
		if b.name == name {
			return b.means
		}
	}
	return nil
}

// bind goes on to where a name means something.
func (s *inference) bind(name string, means func() int) {
	s.around = append(s.around, named{name: name, means: means})
}

// unbind goes on behind where the nearest name is bound.
func (s *inference) unbind() {
	s.around = s.around[:len(s.around)-1]
}

// take takes the next variables, and gives the first of them.
func (s *inference) take(count int) int {
	first := s.next
	s.next += count
	return first
}

// equate tells that a variable is a type.
func (s *inference) equate(v int, t api.Type) {
	if s.classes.Equate(types.Var(v), t) != api.OK {
		s.wrong = true
	}
}

// variables is types that are variables.
func variables(numbers ...int) []api.Type {
	var l []api.Type
	for _, n := range numbers {
		l = append(l, types.Var(n))
	}
	return l
}
