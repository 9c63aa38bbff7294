package eval

import (
	"slices"

	"pangram/api"
)

// most is how many values one may be made of that is laid: each takes 40 bytes, and all of them no more than 2^31 - 1.
const most = (1<<31 - 1) / 40

// worth is what a term is worth.
type worth struct {
	value api.Value         // whose lists may stand in other ones too: what doubles again and again is only laid where it is told
	items int               // how many values it is made of; one more than most, if they are more
	call  func(v worth) act // of a function: what is to be done where its name means a value; nil of others
}

// act is something that is to be done.
type act func() api.Errno

// machine works out a closed term whose Vars have their indices.
// What is to be done waits in a list: calls within calls would take a deep term's depth of the stack, which has an end.
type machine struct {
	fuel  int
	steps int     // how many were taken
	todo  []act   // the next one last
	done  []worth // what parts are worth that something waits for, the latest one last
}

// run works a term out.
func (m *machine) run(t *api.Term) (worth, api.Errno) {
	m.next(m.work(t, outermost()))
	for len(m.todo) > 0 {
		last := len(m.todo) - 1
		do := m.todo[last]
		m.todo = m.todo[:last]
		if e := do(); e != api.OK {
			return worth{}, e
		}
	}
	return m.take(1)[0], api.OK
}

// next lets acts be done one by one, ahead of all that waits.
func (m *machine) next(l ...act) {
	for _, do := range slices.Backward(l) {
		m.todo = append(m.todo, do)
	}
}

// take takes what the latest parts are worth, in their order. The list holds till the next one is given.
func (m *machine) take(count int) []worth {
	first := len(m.done) - count
	l := m.done[first:]
	m.done = m.done[:first]
	return l
}

// give tells what a part is worth.
func (m *machine) give(w worth) act {
	return func() api.Errno {
		m.done = append(m.done, w)
		return api.OK
	}
}

// work works a term out where names mean what they do there.
func (m *machine) work(x *api.Term, there *meaning) act {
	return func() api.Errno {
		if m.steps == m.fuel {
			return api.ErrFuel
		}
		m.steps++
		m.next(m.behind(x, there)...)
		return api.OK
	}
}

// behind is what is to be done behind a term's step.
func (m *machine) behind(x *api.Term, there *meaning) []act {
	part := func(i int) act { return m.work(&x.Parts[i], there) }
	inside := func(i int) func(v worth) act {
		return func(v worth) act { return m.work(&x.Parts[i], there.inner(m.give(v))) }
	}
	switch x.Kind {
	case api.Var:
		return []act{there.past(x.N).means}
	case api.Int:
		return []act{m.give(plain(api.NumV, x.N))}
	case api.Bool:
		return []act{m.give(plain(api.TruthV, x.N))}
	case api.Lam:
		function := plain(api.FunV, 0)
		function.call = inside(0)
		return []act{m.give(function)}
	case api.App:
		return []act{part(0), part(1), m.apply}
	case api.Let:
		return []act{part(0), m.with(inside(1))}
	case api.Rec:
		rec := there.inner(nil)
		// Its first part is worked out where the name means that part itself.
		rec.means = m.work(&x.Parts[0], rec)
		return []act{m.work(&x.Parts[1], rec)}
	case api.If:
		return []act{part(0), m.choose(part(1), part(2))}
	case api.Tuple:
		var l []act
		for i := range x.Parts {
			l = append(l, part(i))
		}
		return append(l, m.join(len(l)))
	}
	return []act{part(0)} // Ann
}

// apply applies what the last part but one is worth to what the last one is.
func (m *machine) apply() api.Errno {
	l := m.take(2)
	function, v := l[0], l[1]
	if function.call == nil {
		return api.ErrStuck
	}
	m.next(function.call(v))
	return api.OK
}

// with does what hangs on what the last part is worth.
func (m *machine) with(call func(v worth) act) act {
	return func() api.Errno {
		m.next(call(m.take(1)[0]))
		return api.OK
	}
}

// choose does one of two, as the last part is true or false.
func (m *machine) choose(yes, no act) act {
	return func() api.Errno {
		v := m.take(1)[0].value
		switch {
		case v.Kind != api.TruthV:
			return api.ErrStuck
		case v.N == 1:
			m.next(yes)
		default:
			m.next(no)
		}
		return api.OK
	}
}

// join gives the tuple of what the last parts are worth.
func (m *machine) join(count int) act {
	return func() api.Errno {
		tuple := plain(api.TupleV, 0)
		for _, part := range m.take(count) {
			tuple.value.Parts = append(tuple.value.Parts, part.value)
			tuple.items = min(tuple.items+part.items, most+1)
		}
		return m.give(tuple)()
	}
}

// plain is a value without parts.
func plain(kind, n int) worth {
	return worth{value: api.Value{Kind: kind, N: n}, items: 1}
}

// told is the value in memory that is its own, and where no two lists are one, if there is room for that.
func (w worth) told() api.Value {
	v := w.value
	if w.items > most {
		return v
	}
	for todo := []*api.Value{&v}; len(todo) > 0; {
		last := len(todo) - 1
		x := todo[last]
		todo = todo[:last]
		x.Parts = slices.Clone(x.Parts)
		for i := range x.Parts {
			todo = append(todo, &x.Parts[i])
		}
	}
	return v
}
