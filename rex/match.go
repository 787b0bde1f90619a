package rex

import (
	"slices"

	"entrepot/api"
	"entrepot/utf"
)

// Match is promise 10.2's. It stands at all places at once to which the text so far leads: there
// are no more than Size allows, however a pattern can be gone through. What is no code point (-1) is in no set.
func Match(r api.Re, s string) bool {
	if !May(r) {
		return false
	}
	var n net
	end := n.add(place{})
	now := n.reach([]int{n.ahead(r, end)})
	for at := 0; at < len(s) && len(now) > 0; {
		c, size := utf.Next(s, at)
		now = n.reach(n.step(now, c))
		at += size
	}
	return slices.Contains(now, end)
}

// place leads on to all of next: by a code point of set, if it reads, else at once.
type place struct {
	reads bool
	set   []api.Range
	next  []int
}

// net is places, by their numbers.
type net struct{ places []place }

func (n *net) add(p place) int {
	n.places = append(n.places, p)
	return len(n.places) - 1
}

// ahead is the place from which r leads to another one.
func (n *net) ahead(r api.Re, to int) int {
	switch r.Kind {
	case api.ReSet:
		return n.add(place{reads: true, set: r.Set, next: []int{to}})
	case api.ReSeq:
		for _, part := range slices.Backward(r.L) {
			to = n.ahead(part, to)
		}
		return to
	case api.ReAlt:
		var next []int
		for _, part := range r.L {
			next = append(next, n.ahead(part, to))
		}
		return n.add(place{next: next})
	}
	return n.aheadOften(r.L[0], r.Min, r.Max, to)
}

// aheadOften has a part as often as it may stand, each time by places of its own; a round, if there is no end.
func (n *net) aheadOften(part api.Re, least, most, to int) int {
	if most == endless {
		round := n.add(place{})
		begin := n.ahead(part, round)
		n.places[round].next = []int{begin, to}
		to = round
	}
	end := to
	for range most - least {
		begin := n.ahead(part, to)
		to = n.add(place{next: []int{begin, end}})
	}
	for range least {
		to = n.ahead(part, to)
	}
	return to
}

// reach is the places at which one stands at once with those of a list, each one once.
func (n *net) reach(list []int) []int {
	seen := make([]bool, len(n.places))
	var out []int
	for len(list) > 0 {
		at := list[len(list)-1]
		list = list[:len(list)-1]
		if seen[at] {
			continue
		}
		seen[at] = true
		out = append(out, at)
		if p := n.places[at]; !p.reads {
			list = append(list, p.next...)
		}
	}
	return out
}

// step is the places to which a code point leads.
func (n *net) step(from []int, c int) []int {
	var out []int
	for _, at := range from {
		if p := n.places[at]; p.reads && has(p.set, c) {
			out = append(out, p.next...)
		}
	}
	return out
}
