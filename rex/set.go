package rex

import (
	"cmp"
	"slices"
	"sort"

	"entrepot/api"
)

// Code points end with last; among them, surrogates are none.
const (
	last           = 0x10FFFF
	firstSurrogate = 0xD800
	lastSurrogate  = 0xDFFF
)

// isSet is whether ranges are code points alone, rise, and have at least one number between.
func isSet(set []api.Range) bool {
	least := 0
	for _, r := range set {
		if r.Lo < least || r.Hi < r.Lo || r.Hi > last || r.Lo <= lastSurrogate && r.Hi >= firstSurrogate {
			return false
		}
		least = r.Hi + 2
	}
	return true
}

// others is the code points that are in none of some ranges from a code point to one not below it, in any order; a set.
func others(ranges []api.Range) []api.Range {
	taken := append(slices.Clone(ranges), api.Range{Lo: firstSurrogate, Hi: lastSurrogate})
	slices.SortFunc(taken, func(a, b api.Range) int { return cmp.Compare(a.Lo, b.Lo) })
	var out []api.Range
	from := 0
	for _, r := range taken {
		if from < r.Lo {
			out = append(out, api.Range{Lo: from, Hi: r.Lo - 1})
		}
		from = max(from, r.Hi+1)
	}
	if from <= last {
		out = append(out, api.Range{Lo: from, Hi: last})
	}
	return out
}

// has is whether a code point is in a set.
func has(set []api.Range, c int) bool {
	i := sort.Search(len(set), func(i int) bool { return set[i].Hi >= c })
	return i < len(set) && set[i].Lo <= c
}

// behind is the next code point.
func behind(c int) int {
	if c+1 == firstSurrogate {
		return lastSurrogate + 1
	}
	return c + 1
}
