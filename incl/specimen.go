package incl

import (
	"slices"
	"strconv"
	"strings"

	"entrepot/api"
)

const (
	maxNodes  = 10_000
	manyNodes = 1 << 30 // more are counted as so many
	maxPrefix = 8
	maxPool   = 4_096
)

// Specimens that are gone through, and items that are held against parts of types, in one step.
const (
	specimensAtOnce = 64
	itemsAtOnce     = 128
)

// part is an element or a member, so many times: some value of a pair.
type part struct {
	name  string
	pair  pair
	times int
}

// item is a part of which it is settled what value it is.
type item struct {
	name            string
	specimen, times int
}

// specimen is a value, by what is in it, and which types it is of.
type specimen struct {
	of           numbers
	leaf         api.Value
	kind         int
	items        []item
	nodes, depth int
	may          bool
}

func leaf(v api.Value, of numbers) specimen {
	return specimen{of: of, leaf: v, nodes: 1, depth: 1, may: len(v.Text) <= api.MaxText}
}

// isOf is whether a specimen is one of a pair.
func (s *specimen) isOf(p pair) bool { return s.of.has(p.in) && s.of.both(p.out) == numbers{} }

// parts is what the seats come to.
func (f *fit) parts() []part {
	var out []part
	own := len(f.frame.places)
	for k, s := range f.seats[:own] {
		if p := f.frame.places[k]; s.state == taken {
			out = append(out, part{name: p.name, pair: pair{in: p.in, out: s.out}, times: 1})
		}
	}
	names := f.otherNames(f.extra())
	for k, s := range f.seats[own:] {
		out = append(out, part{name: names[k], pair: pair{in: f.frame.rest, out: s.out}, times: 1})
	}
	if n := f.frame.least - f.extra(); n > 0 {
		out = append(out, part{pair: pair{in: f.frame.rest}, times: n})
	}
	if f.frame.kind == api.KMap {
		slices.SortFunc(out, func(x, y part) int { return strings.Compare(x.name, y.name) })
	}
	return out
}

// otherNames is n names that no place has.
func (f *fit) otherNames(n int) []string {
	has := map[string]struct{}{}
	for _, p := range f.frame.places {
		has[p.name] = struct{}{}
	}
	var out []string
	for k := 0; len(out) < n; k++ {
		name := strconv.Itoa(k)
		if _, ok := has[name]; !ok {
			out = append(out, name)
		}
	}
	return out
}

// add is the place of a specimen of some parts, of whose pairs specimens are told; none, if one is not known.
func (w *work) add(kind int, parts []part, of func(pair) int) int {
	s := specimen{kind: kind, nodes: 1, depth: 1, may: true}
	n := 0
	for _, x := range parts {
		at := of(x.pair)
		if at == none {
			return none
		}
		sub := &w.specimens[at]
		s.items = append(s.items, item{name: x.name, specimen: at, times: x.times})
		s.nodes = min(s.nodes+sub.nodes*x.times, manyNodes)
		s.depth = max(s.depth, sub.depth+1)
		s.may = s.may && sub.may
		n += x.times
	}
	s.may = s.may && s.nodes <= maxNodes && s.depth <= api.MaxDepth && n <= api.MaxItems
	s.of = w.typesOf(kind, s.items, n)
	w.specimens = append(w.specimens, s)
	if w.room > 0 {
		w.keep(len(w.specimens)-1, s)
	}
	return len(w.specimens) - 1
}

// typesOf is the types of which an array or a map of n items is.
func (w *work) typesOf(kind int, items []item, n int) numbers {
	w.fuel.pay(1 + len(items) + w.parts*(1+len(items))/itemsAtOnce)
	var of numbers
	for i := range w.there.all() {
		switch {
		case kind == api.KArray && slices.ContainsFunc(w.l[i].Arrays, func(a api.Arr) bool { return w.letsElements(a, items, n) }):
			of = of.with(i)
		case kind == api.KMap && slices.ContainsFunc(w.l[i].Maps, func(m api.Map) bool { return w.letsMembers(m, items) }):
			of = of.with(i)
		}
	}
	return of
}

// keep puts a specimen into the pool, unless there is as good a one of the same types.
func (w *work) keep(at int, s specimen) {
	if best, ok := w.kept[s.of]; !ok || s.may && !w.specimens[best].may {
		w.kept[s.of] = at
		w.pool = append(w.pool, at)
		if s.kind != 0 {
			w.room--
		}
	}
}

// letsElements looks at no more of like elements than may stand in a Prefix, and one more.
func (w *work) letsElements(a api.Arr, items []item, n int) bool {
	if from, to := reach(a); n < from || n > to {
		return false
	}
	at := 0
	for _, x := range items {
		of := w.specimens[x.specimen].of
		for k := at; k < at+x.times && (k <= maxPrefix || k == at); k++ {
			if !of.has(element(a, k)) {
				return false
			}
		}
		at += x.times
	}
	return true
}

func (w *work) letsMembers(m api.Map, items []item) bool {
	musts := 0
	for _, x := range items {
		f, _ := field(m, x.name)
		if f.Type == none || !w.specimens[x.specimen].of.has(f.Type) {
			return false
		}
		if f.Must {
			musts++
		}
	}
	return musts == mustsOf(m)
}

// mustsOf is how many names must be there.
func mustsOf(m api.Map) int {
	n := 0
	for _, f := range m.Fields {
		if f.Must {
			n++
		}
	}
	return n
}

// build is the value that a specimen is.
func (w *work) build(at int) api.Value {
	s := &w.specimens[at]
	if s.kind == 0 {
		return s.leaf
	}
	out := api.Value{Kind: s.kind}
	for _, x := range s.items {
		for range x.times {
			out.List = append(out.List, w.build(x.specimen))
			if s.kind == api.KMap {
				out.Keys = append(out.Keys, x.name)
			}
		}
	}
	return out
}
