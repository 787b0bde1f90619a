package mix

import (
	"slices"

	"entrepot/api"
	"entrepot/span"
	"entrepot/text"
)

const (
	maxParts = 20    // of Texts, of Bytes, of Arrays, of Maps
	maxSpans = 1_000 // in a list that package span takes
)

// pair is two types that are met, the lesser number first: it is all one which is met with which.
type pair struct{ low, high int }

// numbering tells the number of a type of the values that both of two types have.
type numbering func(i, j int) int

// meet is types that stand behind l, the first of them of the values of both i and j; the others
// are those that it leads to. It is false, if they are too many or too great.
func meet(l []api.Type, i, j int) ([]api.Type, bool) {
	if i == j {
		return []api.Type{l[i]}, true
	}
	var pairs []pair
	numbers := map[pair]int{}
	number := func(i, j int) int {
		if i == j { // what both have is there already
			return i
		}
		p := pair{low: min(i, j), high: max(i, j)}
		at, ok := numbers[p]
		if !ok {
			at = len(l) + len(pairs)
			numbers[p], pairs = at, append(pairs, p)
		}
		return at
	}
	number(i, j)
	var out []api.Type
	for k := 0; k < len(pairs); k++ {
		if len(l)+len(pairs) > api.MaxTypes {
			return nil, false
		}
		t, ok := both(l[pairs[k].low], l[pairs[k].high], number)
		if !ok {
			return nil, false
		}
		out = append(out, t)
	}
	return out, true
}

// both is a type of the values that two have; false, if it has too many parts.
func both(a, b api.Type, number numbering) (api.Type, bool) {
	ok := true
	ints := span.And(a.Ints, b.Ints)
	t := api.Type{
		Null:   a.Null && b.Null,
		False:  a.False && b.False,
		True:   a.True && b.True,
		Ints:   ints,
		Exact:  bothExact(a, b, ints),
		Floats: a.Floats & b.Floats,
		Texts: crossed(a.Texts, b.Texts, func(x, y api.Texts) (api.Texts, bool) {
			if isEmpty(bothSizes(x.Size, y.Size)) {
				return api.Texts{}, false
			}
			z, sayable := text.Meet(x, y)
			ok = ok && sayable
			return z, sayable
		}),
		Bytes: crossed(a.Bytes, b.Bytes, func(x, y api.Size) (api.Size, bool) {
			z := bothSizes(x, y)
			return z, !isEmpty(z)
		}),
		Arrays: crossed(a.Arrays, b.Arrays, func(x, y api.Arr) (api.Arr, bool) { return bothArrays(x, y, number) }),
		Maps:   crossed(a.Maps, b.Maps, func(x, y api.Map) (api.Map, bool) { return bothMaps(x, y, number) }),
	}
	return t, ok && max(len(t.Texts), len(t.Bytes), len(t.Arrays), len(t.Maps)) <= maxParts
}

// crossed is what each of a has in common with each of b, where that is anything.
func crossed[T any](a, b []T, shared func(x, y T) (T, bool)) []T {
	var out []T
	for _, x := range a {
		for _, y := range b {
			if z, ok := shared(x, y); ok {
				out = append(out, z)
			}
		}
	}
	return out
}

// bothExact is what both let be where it is exact: each span of that but those that are in ints,
// all that both let be by their Ints, as they stand. There is none, if neither has Exact.
func bothExact(a, b api.Type, ints []api.Span) []api.Span {
	said := map[api.Span]struct{}{}
	for _, s := range ints {
		said[s] = struct{}{}
	}
	inBoth := common(span.Or(a.Ints, a.Exact), span.Or(b.Ints, b.Exact))
	return slices.DeleteFunc(inBoth, func(s api.Span) bool {
		_, ok := said[s]
		return ok
	})
}

// common is span.And of lists that are Norms, and may be longer than span.And takes. What
// is in two pieces of a Norm has a gap between, so that the answer is a Norm, too.
func common(a, b []api.Span) []api.Span {
	var out []api.Span
	for x := range slices.Chunk(a, maxSpans) {
		for y := range slices.Chunk(b, maxSpans) {
			out = append(out, span.And(x, y)...)
		}
	}
	return out
}

// bothSizes has a Max below its Min, if there is nothing in both.
func bothSizes(a, b api.Size) api.Size {
	out := api.Size{Min: max(a.Min, b.Min), Max: min(a.Max, b.Max)}
	if a.Max == endless || b.Max == endless {
		out.Max = max(a.Max, b.Max)
	}
	return out
}

func isEmpty(s api.Size) bool { return s.Max != endless && s.Max < s.Min }

// bothArrays is false, if no array is long enough for the one and short enough for the other.
func bothArrays(a, b api.Arr, number numbering) (api.Arr, bool) {
	out := api.Arr{Rest: none, Size: bothSizes(a.Size, b.Size)}
	if isEmpty(bothSizes(out.Size, bothSizes(reach(a), reach(b)))) {
		return api.Arr{}, false
	}
	for k := range max(len(a.Prefix), len(b.Prefix)) {
		i, j := element(a, k), element(b, k)
		if i == none || j == none { // nor may any be there behind this one
			return out, true
		}
		out.Prefix = append(out.Prefix, number(i, j))
	}
	if a.Rest != none && b.Rest != none {
		out.Rest = number(a.Rest, b.Rest)
	}
	return out, true
}

// reach is how long an array may be by what its elements may be.
func reach(a api.Arr) api.Size {
	if a.Rest == none {
		return api.Size{Max: len(a.Prefix)}
	}
	return api.Size{Max: endless}
}

// element is the type of an array's element k.
func element(a api.Arr, k int) int {
	if k < len(a.Prefix) {
		return a.Prefix[k]
	}
	return a.Rest
}
