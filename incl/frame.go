package incl

import (
	"iter"
	"math"
	"slices"
	"strings"

	"entrepot/api"
)

const (
	endless   = -1 // the Max of a Size without end
	none      = -1 // the type of what may not be there
	boundless = math.MaxInt
	further   = -1 // a way's place: one more, behind all that have a place
	present   = -1 // a way's type: it is enough that something is there
	absent    = -2 // a way's type: it is enough that nothing is there
)

// place is one element of an array, or one member of a map, and the type that it has by the part.
type place struct {
	name string
	in   int
	must bool
}

// way is how a value may not be of another part: by what stands at a place, which is not of a type.
type way struct{ at, not int }

// frame is what a value of one part of a type may look like: its places, so many further ones of one type,
// and, for each part that it should not be of, a bar: the ways not to be.
type frame struct {
	kind        int
	places      []place
	rest        int
	least, most int
	bars        [][]way
}

// Ways that are laid out in one step.
const waysAtOnce = 8

// bounds is the least and the greatest length of a size.
func bounds(s api.Size) (int, int) {
	if s.Max == endless {
		return s.Min, boundless
	}
	return s.Min, s.Max
}

// frames is one after the other of what the values of a pair that have parts may look like, arrays up to the
// longest.
func (w *work) frames(p pair, longest int) iter.Seq[*frame] {
	return func(yield func(*frame) bool) {
		var arrays []api.Arr
		var maps []api.Map
		for i := range p.out.all() {
			arrays, maps = append(arrays, w.l[i].Arrays...), append(maps, w.l[i].Maps...)
		}
		for _, a := range w.l[p.in].Arrays {
			if !w.arrayFrames(a, arrays, longest, yield) {
				return
			}
		}
		for _, m := range w.l[p.in].Maps {
			if !yield(w.mapFrame(m, maps)) {
				return
			}
		}
	}
}

// arrayFrames goes from one stretch of lengths, in which all are of the same parts' lengths, to the next. It tells
// whether it has come to the end.
func (w *work) arrayFrames(a api.Arr, bars []api.Arr, longest int, yield func(*frame) bool) bool {
	from, to := reach(a)
	to = min(to, longest)
	ahead := len(a.Prefix)
	for _, b := range bars {
		ahead = max(ahead, len(b.Prefix))
	}
	cuts := cutsOfLengths(from, to, ahead, bars)
	for k, at := range cuts {
		end := to
		if k+1 < len(cuts) {
			end = cuts[k+1] - 1
		}
		if !yield(w.arrayFrame(a, bars, at, end, ahead)) {
			return false
		}
	}
	return true
}

// reach is the least and the greatest length that an Arr has.
func reach(a api.Arr) (int, int) {
	from, to := bounds(a.Size)
	if a.Rest == none {
		to = min(to, len(a.Prefix))
	}
	return from, to
}

// cutsOfLengths is the lengths, rising, at which it begins to be otherwise of which parts an array may be.
func cutsOfLengths(from, to, ahead int, bars []api.Arr) []int {
	out := []int{from}
	for n := range ahead + 2 {
		out = append(out, n)
	}
	for _, b := range bars {
		low, high := reach(b)
		out = append(out, low)
		if high != boundless {
			out = append(out, high+1)
		}
	}
	out = slices.DeleteFunc(out, func(n int) bool { return n < from || n > to })
	slices.Sort(out)
	return slices.Compact(out)
}

// element is the type of element k; none, if there may be none.
func element(a api.Arr, k int) int {
	if k < len(a.Prefix) {
		return a.Prefix[k]
	}
	return a.Rest
}

// arrayFrame is of arrays of from to to elements, of which the first ones have places.
func (w *work) arrayFrame(a api.Arr, bars []api.Arr, from, to, ahead int) *frame {
	w.fuel.pay(1 + len(bars)*(1+min(from, ahead))/waysAtOnce)
	f := &frame{kind: api.KArray, rest: a.Rest}
	for k := range min(from, ahead) {
		f.places = append(f.places, place{in: element(a, k), must: true})
	}
	if from >= ahead && a.Rest != none {
		f.least, f.most = from-ahead, to-ahead
	}
	for _, b := range bars {
		if low, high := reach(b); from < low || from > high {
			continue
		}
		var ways []way
		for k, p := range f.places {
			ways = w.withWay(ways, k, p.in, element(b, k))
		}
		if f.most > 0 {
			ways = w.withWay(ways, further, a.Rest, b.Rest)
		}
		f.bars = append(f.bars, ways)
	}
	return f
}

// mapFrame is of the maps of one part. All names that some part names have places.
func (w *work) mapFrame(m api.Map, bars []api.Map) *frame {
	f := &frame{kind: api.KMap, rest: m.Rest}
	for _, x := range m.Fields {
		f.places = append(f.places, place{name: x.Name, in: x.Type, must: x.Must})
	}
	own := len(f.places)
	if m.Rest != none {
		f.most = boundless
		for _, name := range w.othersNames(m, bars) {
			f.places = append(f.places, place{name: name, in: m.Rest})
		}
	}
	for _, b := range bars {
		if ways, ok := w.mapWays(f, own, b); ok {
			f.bars = append(f.bars, ways)
		}
	}
	return f
}

// othersNames is the names, rising, that m does not name and others do.
func (w *work) othersNames(m api.Map, others []api.Map) []string {
	var out []string
	for _, b := range others {
		w.fuel.pay(1 + len(b.Fields)/waysAtOnce)
		for _, x := range b.Fields {
			if _, ok := field(m, x.Name); !ok {
				out = append(out, x.Name)
			}
		}
	}
	slices.Sort(out)
	return slices.Compact(out)
}

// mapWays is false, if no map of the frame is of b, since what must be there by b can't be by the frame. Of a
// name that only other bars name nothing is told, unless the fewest nodes are looked for: any further name does
// as well.
func (w *work) mapWays(f *frame, own int, b api.Map) ([]way, bool) {
	w.fuel.pay(1 + len(f.places)/waysAtOnce)
	var ways []way
	musts := 0
	for k, p := range f.places {
		x, named := field(b, p.name)
		if x.Must {
			musts++
		}
		if x.Must && !p.must {
			ways = append(ways, way{at: k, not: absent})
		}
		if named || k < own || w.effort.fewest {
			ways = w.withWay(ways, k, p.in, x.Type)
		}
	}
	if f.rest != none {
		ways = w.withWay(ways, further, f.rest, b.Rest)
	}
	return ways, musts == mustsOf(b)
}

// withWay adds the way that what stands at a place is of type in, and not of type not.
func (w *work) withWay(ways []way, at, in, not int) []way {
	switch {
	case in == not:
		return ways
	case not == none || w.apart(in, not):
		return append(ways, way{at: at, not: present})
	}
	return append(ways, way{at: at, not: not})
}

// field is what a Map says of a name, by its Rest where its Fields don't name it.
func field(m api.Map, name string) (api.Field, bool) {
	at, ok := slices.BinarySearchFunc(m.Fields, name, func(f api.Field, name string) int { return strings.Compare(f.Name, name) })
	if ok {
		return m.Fields[at], true
	}
	return api.Field{Name: name, Type: m.Rest}, false
}
