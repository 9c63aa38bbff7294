package robin

import "pangram/api"

// nodes is types as nodes. What a variable stands for is told by the node that it leads to:
// put in wherever the variable stands it may be too great to be laid.
type nodes struct {
	l     []node
	vars  map[int]int // the nodes that stand for variables
	bound []int       // those of variables that have become bound, in order
}

// node is a type whose parts are nodes that follow each other.
type node struct {
	kind, n     int
	first, many int // its parts
	to          int // a node that is the same; itself, if none is known
}

// pair is two nodes that are to be made the same; if they are opened, their parts have been by now.
type pair struct {
	a, b   int
	opened bool
}

// add adds a type, and gives its node.
func (n *nodes) add(t api.Type) int {
	top := n.one(t)
	// The nodes of a type are laid in the order in which it waits, so each one's parts follow each other.
	waiting := []api.Type{t}
	for at := 0; at < len(waiting); at++ {
		n.l[top+at].first = len(n.l)
		for _, part := range waiting[at].Parts {
			n.one(part)
			waiting = append(waiting, part)
		}
	}
	return top
}

// one lays a type's node, without parts. Each one of a variable leads to the first one.
func (n *nodes) one(t api.Type) int {
	i := len(n.l)
	n.l = append(n.l, node{kind: t.Kind, n: t.N, many: len(t.Parts), to: i})
	if t.Kind != api.TVar {
		return i
	}
	if first, ok := n.vars[t.N]; ok {
		n.l[i].to = first
	} else {
		n.vars[t.N] = i
	}
	return i
}

// root is the node to which one leads.
func (n *nodes) root(i int) int {
	for n.l[i].to != i {
		further := n.l[n.l[i].to].to
		n.l[i].to = further
		i = further
	}
	return i
}

// backwards hands a node's parts to a function, with their places, the last one first.
func (n *nodes) backwards(i int, hand func(at, part int)) {
	x := n.l[i]
	for at := x.many - 1; at >= 0; at-- {
		hand(at, x.first+at)
	}
}

// join makes pairs the same, the last one first, up to one that clashes; it tells whether none does.
// Whether what becomes bound is finite isn't asked.
func (n *nodes) join(todo []pair) bool {
	opened := 0
joining:
	for len(todo) > 0 {
		last := len(todo) - 1
		p := todo[last]
		todo = todo[:last]
		a, b := n.root(p.a), n.root(p.b)
		x, y := n.l[a], n.l[b]
		switch {
		case a == b:
		case p.opened:
			// Not earlier: as long as they aren't the same, the one can't stand for the other one.
			n.l[a].to = b
		case x.kind == api.TVar:
			n.bind(a, b)
		case y.kind == api.TVar:
			n.bind(b, a)
		case x.kind != y.kind || x.many != y.many:
			return false
		case opened == len(n.l):
			// Of finite types no more pairs are opened than there are nodes: one of these isn't finite, and they might go on for ever.
			break joining
		default:
			opened++
			todo = append(todo, pair{a: a, b: b, opened: true})
			n.backwards(a, func(at, part int) {
				todo = append(todo, pair{a: part, b: y.first + at})
			})
		}
	}
	return true
}

// bind lets a variable lead to another node.
func (n *nodes) bind(v, to int) {
	n.l[v].to = to
	n.bound = append(n.bound, v)
}

// stand is the types for which the nodes stand to which those lead that are bound; false, if one isn't finite.
// They share parts: laid one by one they may be too many.
func (n *nodes) stand() (map[int]api.Type, bool) {
	type visit struct {
		node   int
		opened bool
	}
	known := map[int]api.Type{}
	opened := map[int]bool{}
	var todo []visit
	for _, i := range n.bound {
		todo = append(todo, visit{node: i})
	}
	for len(todo) > 0 {
		last := len(todo) - 1
		x := todo[last]
		todo = todo[:last]
		i := n.root(x.node)
		_, isKnown := known[i]
		switch {
		case isKnown:
		case x.opened:
			known[i] = n.of(i, known)
		case opened[i]:
			return nil, false
		default:
			opened[i] = true
			todo = append(todo, visit{node: i, opened: true})
			n.backwards(i, func(_, part int) {
				todo = append(todo, visit{node: part})
			})
		}
	}
	return known, true
}

// of is the type for which a node stands, where those of its parts are known.
func (n *nodes) of(i int, known map[int]api.Type) api.Type {
	t := api.Type{Kind: n.l[i].kind, N: n.l[i].n, Parts: make([]api.Type, n.l[i].many)}
	n.backwards(i, func(at, part int) {
		t.Parts[at] = known[n.root(part)]
	})
	return t
}
