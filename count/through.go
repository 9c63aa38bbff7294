package count

import "pangram/api"

// place is a term that is being gone through.
type place struct {
	term   *api.Term
	binder int // the number of the binder, in order, that it is, or, of a Var, means
	part   int // how many of its parts were gone through
}

// through goes through a right resolved closed term. A function is handed each term ahead of each of its parts, and once behind them all,
// with the number, in order, of the binder that it is, or, of a Var, means, and with how many of its parts were gone through by then.
// Terms wait in a list: calls within calls would take a deep term's depth of the stack, which has an end.
func through(t *api.Term, visit func(x *api.Term, binder, part int)) {
	binders := 0
	var around []int // the numbers of those that bind here, the outermost one first
	enter := func(x *api.Term) place {
		p := place{term: x}
		switch {
		case x.Kind == api.Var:
			p.binder = around[len(around)-1-x.N]
		case binds(x):
			p.binder = binders
			binders++
		}
		return p
	}
	for todo := []place{enter(t)}; len(todo) > 0; {
		p := &todo[len(todo)-1]
		x, part := p.term, p.part
		visit(x, p.binder, part)
		if binds(x) && part == firstInside(x) {
			around = append(around, p.binder)
		}
		if part < len(x.Parts) {
			p.part++
			todo = append(todo, enter(&x.Parts[part]))
			continue
		}
		if binds(x) {
			around = around[:len(around)-1]
		}
		todo = todo[:len(todo)-1]
	}
}

// binds tells whether a term binds a name.
func binds(x *api.Term) bool {
	switch x.Kind {
	case api.Lam, api.Let, api.Rec:
		return true
	}
	return false
}

// firstInside is the number of the first part in which a binder's name is bound.
func firstInside(x *api.Term) int {
	if x.Kind == api.Let {
		return 1
	}
	return 0
}
