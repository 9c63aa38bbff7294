package eval

import (
	"math/bits"
	"strconv"

	"pangram/api"
)

// numbers is how many a value may be: those of up to api.MaxDigits digits.
const numbers = 1_000_000_000

// level is a list that is being gone through, and the one at its place in another tree.
type level[T any] struct {
	values []api.Value
	others []T
	next   int
}

// throughout tells whether a value and another tree go together from outside to their last parts, of which a function tells two at one place alone.
// It tells so of what has parts only where the other one has as many.
// A value may stand in itself, unlike other trees: there are no last parts then, so that it goes with none.
// Lists wait in a list: calls within calls would take a deep value's depth of the stack, which has an end.
func throughout[T any](v api.Value, t T, partsOf func(t T) []T, together func(x api.Value, t T) bool) bool {
	path := []level[T]{{values: []api.Value{v}, others: []T{t}}} // each stands in the one ahead of it
	for len(path) > 0 {
		l := &path[len(path)-1]
		if l.next == len(l.values) {
			path = path[:len(path)-1]
			continue
		}
		x, other := l.values[l.next], l.others[l.next]
		l.next++
		if !together(x, other) {
			return false
		}
		if len(x.Parts) == 0 {
			continue
		}
		if sameList(x.Parts, path[landmark(len(path))].values) {
			return false
		}
		path = append(path, level[T]{values: x.Parts, others: partsOf(other)})
	}
	return true
}

// landmark is which list of a path of so many the next one is held against.
// It stays so till the path is twice as long: whatever goes round and round comes to it again.
func landmark(count int) int {
	return 1<<(bits.Len(uint(count))-1) - 1
}

// sameList tells whether two lists, which aren't empty, are the same one, not only alike.
func sameList(a, b []api.Value) bool {
	return &a[0] == &b[0] && len(a) == len(b)
}

func partsOfValue(v api.Value) []api.Value { return v.Parts }

func partsOfType(t api.Type) []api.Type { return t.Parts }

// rightAlone tells whether a value is right, if its parts are.
func rightAlone(v api.Value) bool {
	parts := len(v.Parts)
	switch v.Kind {
	case api.NumV:
		return 0 <= v.N && v.N < numbers && parts == 0
	case api.TruthV:
		return (v.N == 0 || v.N == 1) && parts == 0
	case api.TupleV:
		return v.N == 0 && 2 <= parts && parts <= api.MaxTuple
	case api.FunV:
		return v.N == 0 && parts == 0
	}
	return false
}

// hasAlone tells whether a right value is one of a right type, if its parts are.
func hasAlone(v api.Value, t api.Type) bool {
	switch v.Kind {
	case api.NumV:
		return t.Kind == api.TInt
	case api.TruthV:
		return t.Kind == api.TBool
	case api.TupleV:
		return t.Kind == api.TTuple && len(t.Parts) == len(v.Parts)
	case api.FunV:
		return t.Kind == api.TArrow
	}
	return false
}

// sameAlone tells whether two values are the same, if their parts are.
func sameAlone(a, b api.Value) bool {
	return a.Kind == b.Kind && a.N == b.N && len(a.Parts) == len(b.Parts)
}

// piece is a text that stands as it is, or a value's text.
type piece struct {
	text string
	of   api.Value
}

// pieces is what a value's text is made of, from the left; none of the zero value.
func pieces(v api.Value) []piece {
	switch v.Kind {
	case api.NumV:
		return []piece{{text: strconv.Itoa(v.N)}}
	case api.TruthV:
		return []piece{{text: strconv.FormatBool(v.N == 1)}}
	case api.TupleV:
		return tuplePieces(v.Parts)
	case api.FunV:
		return []piece{{text: "fun"}}
	}
	return nil
}

// tuplePieces is what the text of a tuple with these parts is made of.
func tuplePieces(parts []api.Value) []piece {
	l := []piece{{text: "("}}
	for i, v := range parts {
		if i > 0 {
			l = append(l, piece{text: ", "})
		}
		l = append(l, piece{of: v})
	}
	return append(l, piece{text: ")"})
}
