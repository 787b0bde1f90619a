package incl_test

import (
	gomaps "maps"
	"reflect"
	"slices"

	"entrepot/api"
	"entrepot/types"
)

// A second way to decide, from below: for few types, which sets of them are the sets of types that some
// value is of. What is known of an array or a map is which parts of which types let be what has been
// seen of it.

type profile = uint32

// part is one of the Arrays or Maps of a type.
type part struct {
	of  int
	arr api.Arr
	m   api.Map
}

type profiles struct {
	l      []api.Type
	arrays []part
	maps   []part
	leaves []profile
	names  []string
	cap    int // arrays of so many elements and more are all alike
}

func profilesOf(l []api.Type, scalars []api.Value) *profiles {
	p := &profiles{l: l}
	for i, t := range l {
		for _, a := range t.Arrays {
			p.arrays = append(p.arrays, part{of: i, arr: a})
			p.cap = max(p.cap, a.Size.Min, a.Size.Max+1, len(a.Prefix)+1)
		}
		for _, m := range t.Maps {
			p.maps = append(p.maps, part{of: i, m: m})
			for _, f := range m.Fields {
				p.names = append(p.names, f.Name)
			}
		}
	}
	slices.Sort(p.names)
	p.names = slices.Compact(p.names)
	for _, v := range scalars {
		var x profile
		for i := range l {
			if types.Has(l, i, v) {
				x |= 1 << i
			}
		}
		p.leaves = append(p.leaves, x)
	}
	return p
}

// typeOf is the type that a part asks of element k; names, of what such a name has.
func typeOf(a api.Arr, k int) int {
	if k < len(a.Prefix) {
		return a.Prefix[k]
	}
	return a.Rest
}

func typeOfName(m api.Map, name string) (int, bool) {
	for _, f := range m.Fields {
		if f.Name == name {
			return f.Type, f.Must
		}
	}
	return m.Rest, false
}

type seen struct {
	n     int
	alive uint64
}

// ofArrays is the profiles of arrays whose elements have some, and how many nodes they need.
func (p *profiles) ofArrays(elements map[profile]int) map[profile]int {
	start := seen{alive: 1<<len(p.arrays) - 1}
	best := map[seen]int{start: 1}
	for open := []seen{start}; len(open) > 0; open = open[1:] {
		s := open[0]
		for e, nodes := range elements {
			next := seen{n: min(s.n+1, p.cap)}
			for k, a := range p.arrays {
				if i := typeOf(a.arr, s.n); s.alive>>k&1 == 1 && i >= 0 && e>>i&1 == 1 {
					next.alive |= 1 << k
				}
			}
			if old, ok := best[next]; !ok || best[s]+nodes < old {
				best[next] = best[s] + nodes
				open = append(open, next)
			}
		}
	}
	out := map[profile]int{}
	for s, nodes := range best {
		var x profile
		for k, a := range p.arrays {
			if s.alive>>k&1 == 1 && s.n >= a.arr.Size.Min && (a.arr.Size.Max == -1 || s.n <= a.arr.Size.Max) {
				x |= 1 << a.of
			}
		}
		lower(out, x, nodes)
	}
	return out
}

// lower is whether n is less than what is there, which it then takes the place of.
func lower[K comparable](l map[K]int, k K, n int) bool {
	old, ok := l[k]
	if !ok || n < old {
		l[k] = n
	}
	return !ok || n < old
}

// ofMaps is the profiles of maps whose members have some, and how many nodes they need.
func (p *profiles) ofMaps(elements map[profile]int) map[profile]int {
	best := map[uint64]int{1<<len(p.maps) - 1: 1}
	for _, name := range p.names {
		next := map[uint64]int{}
		for alive, nodes := range best {
			lower(next, p.alive(alive, func(m api.Map) bool { _, must := typeOfName(m, name); return !must }), nodes)
			for e, more := range elements {
				lower(next, p.alive(alive, func(m api.Map) bool { i, _ := typeOfName(m, name); return i >= 0 && e>>i&1 == 1 }), nodes+more)
			}
		}
		best = next
	}
	open := slices.Collect(gomaps.Keys(best))
	for ; len(open) > 0; open = open[1:] {
		for e, more := range elements {
			next := p.alive(open[0], func(m api.Map) bool { return m.Rest >= 0 && e>>m.Rest&1 == 1 })
			if lower(best, next, best[open[0]]+more) {
				open = append(open, next)
			}
		}
	}
	out := map[profile]int{}
	for alive, nodes := range best {
		var x profile
		for k, m := range p.maps {
			if alive>>k&1 == 1 {
				x |= 1 << m.of
			}
		}
		lower(out, x, nodes)
	}
	return out
}

func (p *profiles) alive(alive uint64, lets func(api.Map) bool) uint64 {
	for k, m := range p.maps {
		if !lets(m.m) {
			alive &^= 1 << k
		}
	}
	return alive
}

// levels is the profiles of all values, from what depth on they have them, and how many nodes they
// need within the depth that may be.
func (p *profiles) levels() (depths, nodes map[profile]int) {
	depths, nodes = map[profile]int{}, map[profile]int{}
	var elements map[profile]int
	for depth := 1; ; depth++ {
		next := map[profile]int{}
		for _, x := range p.leaves {
			next[x] = 1
		}
		for _, more := range []map[profile]int{p.ofArrays(elements), p.ofMaps(elements)} {
			for x, n := range more {
				lower(next, x, n)
			}
		}
		for x := range next {
			lower(depths, x, depth)
		}
		if depth <= api.MaxDepth {
			nodes = next
		}
		if reflect.DeepEqual(next, elements) {
			return depths, nodes
		}
		elements = next
	}
}

// verdict is what should be told of type a without those of b; of Empty, b is -1.
func verdict(depths map[profile]int, a, b int) int {
	out := api.Yes
	for x, depth := range depths {
		if x>>a&1 == 1 && (b < 0 || x>>b&1 == 0) {
			if depth <= api.MaxDepth {
				return api.No
			}
			out = api.Unknown
		}
	}
	return out
}
