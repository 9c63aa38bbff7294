package derive

import (
	"pangram/api"
	"pangram/scheme"
	"pangram/scope"
	"pangram/term"
	"pangram/types"
)

// derivation is a right closed term, and a right type for each of its terms.
type derivation struct {
	types  []api.Type
	places []place     // by the terms' numbers
	around []binder    // those that bind where it is gone through, the outermost one first
	stands map[int]int // in how many of the binders' types around a variable stands
}

// place is a term, and what its rule asks for.
type place struct {
	term  *api.Term
	parts []int                 // their numbers
	may   func(t api.Type) bool // Var: whether it may have a type
}

// binder is one that binds a name.
type binder struct {
	may  func(t api.Type) bool // whether a Var that means it may have a type
	vars []int                 // those of its type, if that stands around
}

// lay is a term, gone through, if it is right and closed, and there is a right type for each of its terms.
func lay(t api.Term, l []api.Type) (*derivation, bool) {
	resolved, _, e := scope.Resolve(t)
	if e != api.OK || term.Size(resolved) != len(l) {
		return nil, false
	}
	for _, x := range l {
		if !types.Right(x) {
			return nil, false
		}
	}
	d := &derivation{types: l, stands: map[int]int{}}
	d.through(&resolved)
	return d, true
}

// through goes through a term.
// Terms wait in a list: calls within calls would take a deep term's depth of the stack, which has an end.
func (d *derivation) through(t *api.Term) {
	for todo := []int{d.enter(t)}; len(todo) > 0; {
		i := todo[len(todo)-1]
		x, part := d.places[i].term, len(d.places[i].parts)
		if part == len(x.Parts) {
			d.behind(x)
			todo = todo[:len(todo)-1]
			continue
		}
		d.ahead(i, part)
		inner := d.enter(&x.Parts[part])
		d.places[i].parts = append(d.places[i].parts, inner)
		todo = append(todo, inner)
	}
}

// enter begins to go through a term, and gives its number.
func (d *derivation) enter(x *api.Term) int {
	p := place{term: x}
	if x.Kind == api.Var {
		p.may = d.around[len(d.around)-1-x.N].may
	}
	d.places = append(d.places, p)
	return len(d.places) - 1
}

// ahead does what comes ahead of a term's part.
func (d *derivation) ahead(i, part int) {
	switch kind := d.places[i].term.Kind; {
	case kind == api.Lam:
		// If it isn't an arrow, there is no binder's type, but its own rule doesn't hold, either, which is asked ahead of those inside.
		var own api.Type
		if t := d.types[i]; t.Kind == api.TArrow {
			own = t.Parts[0]
		}
		d.bindOne(own)
	case kind == api.Rec && part == 0:
		d.bindOne(d.types[i+1])
	case kind == api.Rec:
		d.unbind()
		d.bindAll(d.types[i+1])
	case kind == api.Let && part == 1:
		d.bindAll(d.types[i+1])
	}
}

// behind does what comes behind all parts of a term.
func (d *derivation) behind(x *api.Term) {
	switch x.Kind {
	case api.Lam, api.Let, api.Rec:
		d.unbind()
	}
}

// bindOne goes on to where a binder's Vars have its type, which stands around.
func (d *derivation) bindOne(own api.Type) {
	vars := types.Vars(own)
	for _, v := range vars {
		d.stands[v]++
	}
	d.around = append(d.around, binder{
		may:  func(t api.Type) bool { return types.Same(t, own) },
		vars: vars,
	})
}

// bindAll goes on to where a binder's Vars have instances of the scheme of its first part's type.
func (d *derivation) bindAll(first api.Type) {
	// Of what stands around only the type's own variables matter.
	var around []api.Type
	for _, v := range types.Vars(first) {
		if d.stands[v] > 0 {
			around = append(around, types.Var(v))
		}
	}
	s := scheme.Close(first, around...)
	d.around = append(d.around, binder{
		may: func(t api.Type) bool { return scheme.Instance(s, t) },
	})
}

// unbind goes on behind where the nearest binder's name is bound.
func (d *derivation) unbind() {
	last := len(d.around) - 1
	for _, v := range d.around[last].vars {
		d.stands[v]--
	}
	d.around = d.around[:last]
}
