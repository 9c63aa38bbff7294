// Package span is layer 1: bytes of a text that are told.
package span

import (
	"cmp"
	"slices"
	"strings"

	"pangram/api"
)

// Merge is spans, merged.
func Merge(l ...api.Span) []api.Span {
	var merged []api.Span
	eachRising(l, func(s api.Span) {
		last := len(merged) - 1
		if last >= 0 && s.From <= merged[last].To {
			merged[last].To = max(merged[last].To, s.To)
			return
		}
		merged = append(merged, s)
	})
	return merged
}

// Has tells whether a span has a byte.
func Has(i int, l ...api.Span) bool {
	return slices.ContainsFunc(l, func(s api.Span) bool {
		return s.From <= i && i < s.To
	})
}

// Count is how many of the first bytes spans have.
func Count(n int, l ...api.Span) int {
	sum := 0
	eachInside(n, l, func(s api.Span) {
		sum += s.To - s.From
	})
	return sum
}

// Within tells whether all bytes of some spans are others'.
func Within(a, b []api.Span) bool {
	around, i := Merge(b...), 0
	for _, s := range Merge(a...) {
		// Both lists rise and none of one list touch, so a span that ends
		// too soon for this one does so for all that follow.
		for i < len(around) && around[i].To < s.To {
			i++
		}
		if i == len(around) || s.From < around[i].From {
			return false
		}
	}
	return true
}

// Join is the least span with all bytes of two.
func Join(a, b api.Span) api.Span {
	switch {
	case hasBytes(a) && hasBytes(b):
		return api.Span{From: min(a.From, b.From), To: max(a.To, b.To)}
	case hasBytes(a):
		return a
	case hasBytes(b):
		return b
	}
	return api.Span{}
}

// Cut is the parts of a text that spans have.
func Cut(text string, l ...api.Span) []string {
	var parts []string
	eachInside(len(text), l, func(s api.Span) {
		parts = append(parts, text[s.From:s.To])
	})
	return parts
}

// Place is a byte's line, and its column.
func Place(text string, i int) (int, int) {
	ahead := text[:max(0, min(i, len(text)))]
	// Without a line feed the last one counts as standing at -1.
	return 1 + strings.Count(ahead, "\n"), len(ahead) - strings.LastIndexByte(ahead, '\n')
}

// Right tells whether spans lie in a text of n bytes.
func Right(n int, l ...api.Span) bool {
	return !slices.ContainsFunc(l, func(s api.Span) bool {
		return s.From < 0 || n < s.To || s.To < s.From
	})
}

// hasBytes tells whether a span has any.
func hasBytes(s api.Span) bool {
	return s.From < s.To
}

// eachRising goes through the spans with bytes, by where they begin.
func eachRising(l []api.Span, visit func(s api.Span)) {
	// The list is the caller's own, so what is sorted is another one.
	sorted := slices.Clone(l)
	slices.SortFunc(sorted, func(a, b api.Span) int {
		return cmp.Compare(a.From, b.From)
	})
	for _, s := range sorted {
		if hasBytes(s) {
			visit(s)
		}
	}
}

// eachInside goes through the merged spans, as far as they lie in the first n bytes.
func eachInside(n int, l []api.Span, visit func(s api.Span)) {
	for _, s := range Merge(l...) {
		inside := api.Span{From: max(s.From, 0), To: min(s.To, n)}
		if hasBytes(inside) {
			visit(inside)
		}
	}
}
