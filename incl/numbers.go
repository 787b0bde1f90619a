package incl

import (
	"iter"
	"math/bits"

	"entrepot/api"
)

const wordBits = 64

// numbers is a set of numbers of types: a bit for each that there may be.
type numbers [(api.MaxTypes + wordBits - 1) / wordBits]uint64

func (n numbers) has(i int) bool { return n[i/wordBits]>>(i%wordBits)&1 == 1 }

func (n numbers) with(i int) numbers {
	n[i/wordBits] |= 1 << (i % wordBits)
	return n
}

func (n numbers) both(m numbers) numbers {
	for k := range n {
		n[k] &= m[k]
	}
	return n
}

func (n numbers) either(m numbers) numbers {
	for k := range n {
		n[k] |= m[k]
	}
	return n
}

func (n numbers) without(m numbers) numbers {
	for k := range n {
		n[k] &^= m[k]
	}
	return n
}

// all is the numbers as they rise.
func (n numbers) all() iter.Seq[int] {
	return func(yield func(int) bool) {
		for k, word := range n {
			for ; word != 0; word &= word - 1 {
				if !yield(k*wordBits + bits.TrailingZeros64(word)) {
					return
				}
			}
		}
	}
}

// pair is two lists of types: the values that are of the one that stands in in, and of none in out.
type pair struct {
	in  int
	out numbers
}

// reached is the types to which those of a pair lead, and they.
func reached(l []api.Type, p pair) numbers {
	seen := p.out.with(p.in)
	var open []int
	for i := range seen.all() {
		open = append(open, i)
	}
	visit := func(i int) {
		if i != none && !seen.has(i) {
			seen = seen.with(i)
			open = append(open, i)
		}
	}
	for k := 0; k < len(open); k++ {
		for _, a := range l[open[k]].Arrays {
			visit(a.Rest)
			for _, i := range a.Prefix {
				visit(i)
			}
		}
		for _, m := range l[open[k]].Maps {
			visit(m.Rest)
			for _, f := range m.Fields {
				visit(f.Type)
			}
		}
	}
	return seen
}
