package dfa

import (
	"slices"
	"strings"

	"entrepot/api"
	"entrepot/utf"
)

// A text of more than MaxText bytes may not be told: all of these count as of one byte more.
const tooLong = api.MaxText + 1

// node is a vertex to which texts of some count of code points lead. Of these it has one of the
// fewest bytes: by its last code point, and the node ahead of that.
type node struct{ vertex, point, from, bytes int32 }

// search goes from count to count of code points, at all nodes of a count at once.
type search struct {
	graph  *graph
	meter  *meter
	nodes  []node
	layer  int     // where the nodes of this count begin, up to the last one
	here   []int32 // by vertex: its last node
	fewest []int32 // by vertex: the fewest bytes that lead to it by a count that is enough
	beyond bool    // there is a text, but none so far that may be told
}

// Steps that the making of a node, and of one step from it, take.
const (
	nodeCost = 32
	wayCost  = 2
)

const noNode = -1

func newSearch(g *graph, m *meter) *search {
	s := &search{graph: g, meter: m}
	s.know()
	s.add(node{from: noNode})
	return s
}

func (s *search) find(size api.Size) (string, int) {
	for count := 0; s.layer < len(s.nodes); count++ {
		if count >= size.Min {
			if at := s.settle(); at != noNode {
				return s.text(at), api.Yes
			}
		}
		if count == size.Max {
			break
		}
		s.advance()
		if s.meter.out() {
			return "", api.Unknown
		}
	}
	if s.beyond {
		return "", api.Unknown
	}
	return "", api.No
}

// settle looks among the nodes of a count that is enough for one whose text may be told.
func (s *search) settle() int {
	for at := s.layer; at < len(s.nodes); at++ {
		n := s.nodes[at]
		s.fewest[n.vertex] = n.bytes
		if !s.graph.wins(n.vertex) {
			continue
		}
		if n.bytes < tooLong {
			return at
		}
		s.beyond = true
	}
	return noNode
}

// advance goes on to the next count, and not all the way if the meter is out.
func (s *search) advance() {
	from, to := s.layer, len(s.nodes)
	s.layer = to
	for at := from; at < to && !s.meter.out(); at++ {
		edges := s.graph.steps(s.nodes[at].vertex)
		s.know()
		s.meter.spend(wayCost * len(edges))
		for _, e := range edges {
			s.reach(at, e)
		}
	}
}

// know makes room for all vertices.
func (s *search) know() {
	for len(s.here) < len(s.graph.tuples) {
		s.here = append(s.here, noNode)
		s.fewest = append(s.fewest, tooLong+1)
	}
}

// reach takes a step from a node, unless it is of no use: where fewer code points are enough, more
// of them that lead to the same vertex must have fewer bytes.
func (s *search) reach(from int, e edge) {
	bytes := min(s.nodes[from].bytes+e.bytes, tooLong)
	if bytes >= s.fewest[e.to] || s.beyond && bytes == tooLong {
		return
	}
	n := node{vertex: e.to, point: e.point, from: int32(from), bytes: bytes}
	if at := int(s.here[e.to]); at < s.layer {
		s.add(n)
	} else if bytes < s.nodes[at].bytes {
		s.nodes[at] = n
	}
}

func (s *search) add(n node) {
	s.here[n.vertex] = int32(len(s.nodes))
	s.nodes = append(s.nodes, n)
	s.meter.spend(nodeCost)
}

// text is what the steps to a node put.
func (s *search) text(at int) string {
	var path []int32
	for n := s.nodes[at]; n.from != noNode; n = s.nodes[n.from] {
		path = append(path, n.point)
	}
	var b strings.Builder
	for _, c := range slices.Backward(path) {
		b.WriteString(utf.Put(int(c)))
	}
	return b.String()
}
