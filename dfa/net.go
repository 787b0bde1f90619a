package dfa

import (
	"iter"
	"math/bits"

	"entrepot/api"
)

// Of a pattern, whose Size is at most 200, at most 199 places read; end is behind them.
const (
	words = 4
	end   = 64*words - 1
)

// places is a set of a pattern's places.
type places [words]uint64

func (p *places) add(at int) { p[at/64] |= 1 << (at % 64) }

func (p places) has(at int) bool { return p[at/64]>>(at%64)&1 == 1 }

func (p places) with(q places) places {
	for i := range p {
		p[i] |= q[i]
	}
	return p
}

func (p places) both(q places) places {
	for i := range p {
		p[i] &= q[i]
	}
	return p
}

func (p places) each() iter.Seq[int] {
	return func(yield func(int) bool) {
		for i, word := range p {
			for ; word != 0; word &= word - 1 {
				if !yield(64*i + bits.TrailingZeros64(word)) {
					return
				}
			}
		}
	}
}

// net is a pattern's places: each one reads a code point of its set, whereupon one stands at all of next at once.
type net struct {
	start places
	sets  [][]api.Range
	next  []places
}

// netsOf is those of all, then those of none.
func netsOf(all, none []api.Re) []net {
	var out []net
	for _, l := range [][]api.Re{all, none} {
		for _, r := range l {
			out = append(out, netOf(r))
		}
	}
	return out
}

func netOf(r api.Re) net {
	var n net
	var behind places
	behind.add(end)
	whole := n.join(n.part(r), part{first: behind, last: behind})
	n.start = whole.first
	return n
}

// part is where texts of a part of a pattern begin and end, and whether the empty one is such.
// What has no text at all is the zero part: from no place that can be come to does one miss the end.
type part struct {
	first, last places
	empty       bool
}

func (n *net) part(r api.Re) part {
	switch r.Kind {
	case api.ReSet:
		return n.reader(r.Set)
	case api.ReSeq:
		out := part{empty: true}
		for _, next := range r.L {
			out = n.join(out, n.part(next))
		}
		return out
	case api.ReAlt:
		var out part
		for _, other := range r.L {
			out = either(out, n.part(other))
		}
		return out
	}
	return n.repeat(r.L[0], r.Min, r.Max)
}

func (n *net) reader(set []api.Range) part {
	if len(set) == 0 {
		return part{}
	}
	var here places
	here.add(len(n.sets))
	n.sets = append(n.sets, set)
	n.next = append(n.next, places{})
	return part{first: here, last: here}
}

func either(a, b part) part {
	return part{first: a.first.with(b.first), last: a.last.with(b.last), empty: a.empty || b.empty}
}

// join is a and, behind it, b.
func (n *net) join(a, b part) part {
	if a == (part{}) || b == (part{}) {
		return part{}
	}
	n.link(a.last, b.first)
	out := part{first: a.first, last: b.last, empty: a.empty && b.empty}
	if a.empty {
		out.first = out.first.with(b.first)
	}
	if b.empty {
		out.last = out.last.with(a.last)
	}
	return out
}

func (n *net) link(from, to places) {
	for at := range from.each() {
		n.next[at] = n.next[at].with(to)
	}
}

// repeat has places of its own for each time; the last ones go round, if there is no end.
func (n *net) repeat(r api.Re, least, most int) part {
	out := part{empty: true}
	for range least {
		out = n.join(out, n.part(r))
	}
	if most == endless {
		round := n.part(r)
		n.link(round.last, round.first)
		return n.join(out, either(round, part{empty: true}))
	}
	for range most - least {
		out = n.join(out, either(n.part(r), part{empty: true}))
	}
	return out
}
