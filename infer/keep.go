package infer

import (
	"slices"

	"pangram/api"
	"pangram/types"
	"pangram/unify"
)

// none is the least variable of a class that has none. Such are only parts of annotations, which have no variables in them.
const none = -1

// kept is a type that comes once more: variables, from the first one on, each with what it is, made of those ahead of it; what is a variable is that itself.
// The last one is the whole type. Without any the type comes as it is.
type kept struct {
	first int
	types []api.Type
	fixed []int       // other variables that are meant
	at    map[int]int // the variables, by the Ids of the classes that they are for
}

// keep is what comes once more of a variable's type, around which those of some variables stand.
// Classes that aren't finite stay so: there is no type then, which is told in the end, whatever is kept here.
func (s *inference) keep(own int, around []int) kept {
	k := kept{first: s.next, at: map[int]int{}}
	w := newWalker(s.ground)
	for _, v := range around {
		w.from(s.part(v), s.note)
	}
	// What is come to from around is gone through by now, so what is left are the variables that stand nowhere there, and what is made of these.
	w.from(s.part(own), func(p unify.Part, parts []unify.Part) {
		s.note(p, parts)
		k.add(p, parts)
	})
	s.take(len(k.types))
	return k
}

// part is what a variable's class stands for.
func (s *inference) part(v int) unify.Part {
	p, _ := s.classes.Part(v)
	return p
}

// note keeps in mind that a class stands for a type without variables, if it does: that stays so.
func (s *inference) note(p unify.Part, parts []unify.Part) {
	if p.Kind() == 0 {
		return
	}
	for _, x := range parts {
		if !s.ground[x.Var()] {
			return
		}
	}
	s.ground[p.Var()] = true
}

// add adds a class, if it comes once more, behind its parts.
func (k *kept) add(p unify.Part, parts []unify.Part) {
	var l, fixed []int
	for _, x := range parts {
		v, again := k.at[x.Id()]
		if !again {
			v = x.Var()
			fixed = append(fixed, v)
		}
		l = append(l, v)
	}
	if p.Kind() != 0 && len(fixed) == len(l) {
		return
	}
	v := k.first + len(k.types)
	t := types.Var(v)
	if p.Kind() != 0 {
		t = api.Type{Kind: p.Kind(), Parts: variables(l...)}
	}
	k.at[p.Id()] = v
	k.types = append(k.types, t)
	k.fixed = append(k.fixed, fixed...)
}

// walker goes through classes, each once.
type walker struct {
	skip map[int]bool // by the least variables of classes: what isn't gone through
	seen map[int]bool // by Ids
}

func newWalker(skip map[int]bool) walker {
	return walker{skip: skip, seen: map[int]bool{}}
}

// from hands a class, and those that one comes to from it, to a function, each behind its parts, if it is finite.
// Classes wait in a list: calls within calls would take a deep type's depth of the stack, which has an end.
func (w walker) from(p unify.Part, visit func(p unify.Part, parts []unify.Part)) {
	var todo []unify.Part // each is a part of the one ahead of it
	enter := func(x unify.Part) bool {
		if w.seen[x.Id()] || w.skip[x.Var()] {
			return false
		}
		w.seen[x.Id()] = true
		todo = append(todo, x)
		return true
	}
	enter(p)
	for len(todo) > 0 {
		last := len(todo) - 1
		x := todo[last]
		parts := x.Parts()
		// Behind a part that wasn't gone through yet this one is looked at once more.
		if slices.ContainsFunc(parts, enter) {
			continue
		}
		todo = todo[:last]
		visit(x, parts)
	}
}
