package eval

import "iter"

// meaning is what a name means, the last one of a list of what those around it mean.
// Functions that are made at one place keep lists that begin alike, so that they are links, not slices.
type meaning struct {
	means act
	count int      // how many there are in the list
	outer *meaning // the next one outwards
	far   *meaning // that one, or one further outwards
}

// outermost is the list where no name means anything.
func outermost() *meaning {
	m := &meaning{}
	m.outer, m.far = m, m
	return m
}

// inner is the list with one more at its end.
func (m *meaning) inner(means act) *meaning {
	far := m
	// Where the next two links to far ones pass by equally many, the new one passes by all of these: so whatever is looked for is found by few links, of however many meanings.
	if m.count-m.far.count == m.far.count-m.far.far.count {
		far = m.far.far
	}
	return &meaning{means: means, count: m.count + 1, outer: m, far: far}
}

// past is what the name means that has so many nearer ones; nil, if there is none.
func (m *meaning) past(nearer int) *meaning {
	for x := range m.backward(m.count - nearer) {
		if x.count == m.count-nearer {
			return x
		}
	}
	return nil
}

// backward goes through the list from its end on, to the one that is the last of so many, passing by ahead of that what it can.
func (m *meaning) backward(count int) iter.Seq[*meaning] {
	return func(yield func(x *meaning) bool) {
		for x := m; yield(x) && count < x.count; {
			if count <= x.far.count {
				x = x.far
			} else {
				x = x.outer
			}
		}
	}
}
