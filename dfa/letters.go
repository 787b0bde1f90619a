package dfa

import (
	"iter"
	"math/bits"

	"entrepot/api"
)

// Code points end ahead of points; among them, surrogates are none.
const (
	points         = 0x110000
	firstSurrogate = 0xD800
	lastSurrogate  = 0xDFFF
)

// letters is classes of code points between which no place of any pattern tells a difference, in
// the order of their least code points: these stand for all, and have the fewest bytes.
type letters struct {
	least []int
	reads [][]places // by pattern, by class: which places read it
}

func lettersOf(nets []net, m *meter) (letters, bool) {
	r := runsOf(nets, m)
	for _, n := range nets {
		for _, set := range n.sets {
			if m.out() {
				return letters{}, false
			}
			r.split(set, m)
		}
	}
	return r.letters(nets, m)
}

// runs is all code points cut where a set begins or ends. Each run is of a class, that of surrogates of none.
type runs struct {
	pages   [points/pagePoints + 1]*page
	ahead   [points/pagePoints + 1]int // by page: how many runs begin ahead of it
	starts  []int
	classes []int
	sizes   []int // by class: how many runs it has
}

// page is code points among which a run begins.
type page struct {
	begins [64]uint64 // a bit of each code point: does a run begin there?
	ahead  [64]int    // by word: how many runs begin ahead of it
}

const pagePoints = 64 * 64

const noClass = -1

func runsOf(nets []net, m *meter) *runs {
	r := &runs{}
	r.begin(0)
	r.begin(firstSurrogate)
	r.begin(lastSurrogate + 1)
	for _, n := range nets {
		for _, set := range n.sets {
			m.spend(len(set))
			for _, x := range set {
				r.begin(x.Lo)
				r.begin(x.Hi + 1)
			}
		}
	}
	r.number()
	r.classes = make([]int, len(r.starts))
	r.classes[r.at(firstSurrogate)] = noClass
	r.sizes = []int{len(r.starts) - 1}
	return r
}

func (r *runs) begin(c int) {
	if c == points {
		return
	}
	p := &r.pages[c/pagePoints]
	if *p == nil {
		*p = &page{}
	}
	(*p).begins[c/64%64] |= 1 << (c % 64)
}

func (r *runs) number() {
	for i, p := range r.pages {
		r.ahead[i] = len(r.starts)
		if p == nil {
			continue
		}
		for j, word := range p.begins {
			p.ahead[j] = len(r.starts)
			for ; word != 0; word &= word - 1 {
				r.starts = append(r.starts, i*pagePoints+j*64+bits.TrailingZeros64(word))
			}
		}
	}
}

// at is how many runs begin ahead of a code point: the number of the one that begins there.
func (r *runs) at(c int) int {
	p := r.pages[c/pagePoints]
	if p == nil {
		return r.ahead[c/pagePoints]
	}
	word := p.begins[c/64%64] & (1<<(c%64) - 1)
	return p.ahead[c/64%64] + bits.OnesCount64(word)
}

// within is the runs that make up a set.
func (r *runs) within(set []api.Range) iter.Seq[int] {
	return func(yield func(int) bool) {
		for _, x := range set {
			for i, to := r.at(x.Lo), r.at(x.Hi+1); i < to; i++ {
				if !yield(i) {
					return
				}
			}
		}
	}
}

// split makes two classes of each one of which a set has a part alone.
func (r *runs) split(set []api.Range, m *meter) {
	inside := make([]int, len(r.sizes))
	for i := range r.within(set) {
		inside[r.classes[i]]++
		m.spend(2)
	}
	become := make([]int, len(inside))
	for class, n := range inside {
		become[class] = class
		if n > 0 && n < r.sizes[class] {
			become[class] = len(r.sizes)
			r.sizes[class] -= n
			r.sizes = append(r.sizes, n)
		}
	}
	for i := range r.within(set) {
		r.classes[i] = become[r.classes[i]]
	}
	m.spend(len(inside))
}

// letters gives the classes their order.
func (r *runs) letters(nets []net, m *meter) (letters, bool) {
	m.spend(len(r.starts) + len(r.sizes)*len(nets)*8)
	if m.out() {
		return letters{}, false
	}
	var out letters
	order := make([]int, len(r.sizes))
	for i, class := range r.classes {
		if class == noClass {
			continue
		}
		if order[class] == 0 {
			out.least = append(out.least, r.starts[i])
			order[class] = len(out.least)
		}
		r.classes[i] = order[class] - 1
	}
	for _, n := range nets {
		reads := make([]places, len(out.least))
		for at, set := range n.sets {
			for i := range r.within(set) {
				reads[r.classes[i]].add(at)
				m.spend(1)
			}
		}
		out.reads = append(out.reads, reads)
	}
	return out, !m.out()
}
