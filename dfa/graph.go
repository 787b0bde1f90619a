package dfa

import "entrepot/utf"

// tuple is a state of each pattern's machine.
type tuple [maxPatterns]int32

// edge is a step to a vertex by a code point: of all that lead there, one of the fewest bytes.
type edge struct{ to, point, bytes int32 }

// graph is what all patterns at once can come to: its vertices are tuples, numbered as they are
// come to, the first one by 0. Those from which no text is such for each of all are left out.
type graph struct {
	machines []*machine
	all      int // so many machines, the first ones, are those of all
	tuples   []tuple
	steps    func(vertex int32) []edge
}

// Steps that the making of a vertex, and of one step from it, take.
const (
	vertexCost = 512
	edgeCost   = 20
)

const noVertex = -1

func newGraph(nets []net, all int, l letters, m *meter) *graph {
	g := &graph{all: all}
	var first tuple
	for i, n := range nets {
		k, start := machineOf(n, l.reads[i], m)
		g.machines = append(g.machines, k)
		first[i] = start
	}
	g.steps = g.stepping(first, l.least, m)
	return g
}

// stepping works out a vertex's edges once. If the meter is out, some of them are missing.
func (g *graph) stepping(first tuple, least []int, m *meter) func(int32) []edge {
	numbers := map[tuple]int32{}
	var known [][]edge
	var reached []int32 // by vertex: the last one from which a step to it was found
	numberOf := func(t tuple) int32 {
		at, ok := numbers[t]
		if !ok {
			at = int32(len(g.tuples))
			numbers[t] = at
			g.tuples = append(g.tuples, t)
			known = append(known, nil)
			reached = append(reached, noVertex)
			m.spend(vertexCost)
		}
		return at
	}
	numberOf(first)
	return func(from int32) []edge {
		if known[from] != nil {
			return known[from]
		}
		out := []edge{}
		rows := g.rows(from)
		for class := 0; class < len(least) && !m.out(); class++ {
			m.spend(edgeCost + len(rows))
			t, ok := g.tuple(rows, class)
			if !ok {
				continue
			}
			if to := numberOf(t); reached[to] != from {
				reached[to] = from
				out = append(out, edge{to: to, point: int32(least[class]), bytes: int32(len(utf.Put(least[class])))})
			}
		}
		known[from] = out
		return out
	}
}

func (g *graph) rows(vertex int32) [][]int32 {
	var rows [][]int32
	for i, k := range g.machines {
		rows = append(rows, k.row(g.tuples[vertex][i]))
	}
	return rows
}

// tuple is where a class leads to; none, if no text is such for all from there on.
func (g *graph) tuple(rows [][]int32, class int) (tuple, bool) {
	var t tuple
	for i, row := range rows {
		if i < g.all && row[class] == dead {
			return tuple{}, false
		}
		t[i] = row[class]
	}
	return t, true
}

// wins is whether the texts that lead to a vertex are such for each of all, and for none of none.
func (g *graph) wins(vertex int32) bool {
	for i, k := range g.machines {
		if k.wins(g.tuples[vertex][i]) != (i < g.all) {
			return false
		}
	}
	return true
}
