package span

import (
	"math"
	"slices"

	"entrepot/api"
	"entrepot/whole"
)

// Norm is promise 9.1's.
func Norm(l []api.Span) []api.Span { return Or(l, nil) }

// Or is promise 9.1's. The answer, as And's and Not's, may have more spans than May lets be.
func Or(a, b []api.Span) []api.Span {
	return sweep(a, b, func(inA, inB bool) bool { return inA || inB })
}

// And is promise 9.1's.
func And(a, b []api.Span) []api.Span {
	return sweep(a, b, func(inA, inB bool) bool { return inA && inB })
}

// Not is promise 9.1's.
func Not(a []api.Span) []api.Span {
	return sweep(a, nil, func(inA, _ bool) bool { return !inA })
}

// edge is a number from which on one of two lists has a span more that holds than just below, or one less.
type edge struct {
	at         api.Int
	list, more int
}

// sweep goes upward from edge to edge; what is told of either list there tells where the answer's
// spans have their ends. Each of these is a turn from out to in or back, so that the answer is a Norm.
func sweep(a, b []api.Span, isIn func(inA, inB bool) bool) []api.Span {
	if !May(a) || !May(b) {
		return nil
	}
	edges := []edge{{at: least()}} // whether the first number of all is in is asked, whatever the lists are
	edges = appendEdges(edges, 0, a)
	edges = appendEdges(edges, 1, b)
	slices.SortFunc(edges, func(x, y edge) int { return whole.Cmp(x.at, y.at) })
	var out []api.Span
	var depths [2]int
	inside := false
	for i, e := range edges {
		depths[e.list] += e.more
		if i+1 < len(edges) && edges[i+1].at == e.at { // till all that begins or ends there is counted
			continue
		}
		if isIn(depths[0] > 0, depths[1] > 0) != inside {
			inside = !inside
			out = turn(out, e.at, inside)
		}
	}
	return out
}

// appendEdges leaves out an end that nothing lies above.
func appendEdges(edges []edge, list int, l []api.Span) []edge {
	for _, s := range l {
		if isEmpty(s) {
			continue
		}
		lo := s.Lo
		if !s.HasLo {
			lo = least()
		}
		edges = append(edges, edge{at: lo, list: list, more: 1})
		if above, ok := whole.Next(s.Hi); ok && s.HasHi {
			edges = append(edges, edge{at: above, list: list, more: -1})
		}
	}
	return edges
}

// turn begins a span at a number, or ends the last one just below it.
func turn(out []api.Span, at api.Int, inside bool) []api.Span {
	if !inside {
		last := &out[len(out)-1]
		last.Hi, last.HasHi = whole.Prev(at)
		return out
	}
	if at == least() { // which is no end
		return append(out, api.Span{})
	}
	return append(out, api.Span{HasLo: true, Lo: at})
}

// least is the least of all numbers.
func least() api.Int {
	return api.Int{Neg: true, N: api.Nat{math.MaxUint64, math.MaxUint64, math.MaxUint64, math.MaxUint64}}
}
