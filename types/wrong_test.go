package types_test

import (
	"strings"
	"testing"

	"entrepot/api"
	"entrepot/value"
)

// Promise 13.2: values that may not be.

// What may not be otherwise than for its size or its depth is in no type, by itself or as a part of another one.
func TestHasOfWrongValues(t *testing.T) {
	l := these(everything(0), ofArrays(arr(0, 0, -1)), ofMaps(maps(0, "")), ofArrays(arr(0, 0, -1, 0, 0)), ofMaps(maps(0, "a0 b0!"), maps(0, "a0")))
	l[0].Exact = spans("..")
	for _, v := range wrongs() {
		if value.May(v) == api.OK {
			t.Fatalf("%s may be", brief(v))
		}
		for _, w := range places(v) {
			for i := range l {
				has(t, l, i, w, false)
			}
		}
	}
}

// What may not be for its size or its depth alone is asked all the same.
func TestHasOfGreatValues(t *testing.T) {
	l := these(everything(0), api.Type{Texts: []api.Texts{texts(0, -1)}}, api.Type{Bytes: []api.Size{size(0, -1)}}, api.Type{Null: true})
	for _, v := range bigs() {
		if e := value.May(v); e != api.ErrDepth && e != api.ErrLimit {
			t.Fatalf("%s: %d", brief(v), e)
		}
		for _, w := range places(v) {
			has(t, l, 0, w, true)
			has(t, l, 3, w, false)
		}
		has(t, l, 1, v, v.Kind == api.KText)
		has(t, l, 2, v, v.Kind == api.KBytes)
	}
}

// Great values are asked part by part, as others are.
func TestHasOfGreatValuesByTheirParts(t *testing.T) {
	long := strings.Repeat("a", 5000)
	l := these(
		api.Type{Null: true},
		ofArrays(arr(0, 0, -1)),
		ofMaps(maps(0, "")),
		api.Type{Texts: []api.Texts{texts(4096, -1), texts(0, 9)}},
		api.Type{Texts: []api.Texts{texts(4096, -1, "a*")}},
		api.Type{Bytes: []api.Size{size(4096, -1)}},
		ofArrays(arr(0, 1000, -1)),
		ofArrays(arr(0, 0, 1000)),
		ofMaps(maps(-1, "")),
		api.Type{Null: true, Arrays: []api.Arr{arr(9, 1, 1)}},
	)
	with := func(n, at int, v api.Value) api.Value {
		w := list(copies(n, null)...)
		w.List[at] = v
		return w
	}
	mixed := func(n, at int, v api.Value) api.Value {
		w := wide(n, null)
		w.List[at] = v
		return w
	}
	lets(t, l, 1, []api.Value{with(1001, 0, null), with(20_000, 0, null)}, []api.Value{with(1001, 0, one), with(1001, 1000, one), with(1001, 500, list()), wide(1001, null)})
	lets(t, l, 2, []api.Value{wide(1001, null), member(long, null)}, []api.Value{mixed(1001, 0, one), mixed(1001, 1000, one), member(long, one), list(copies(1001, null)...)})
	lets(t, l, 3, []api.Value{word(long), word(long + "é"), word(long[1:])}, []api.Value{raw(long)})
	lets(t, l, 4, []api.Value{word(long)}, []api.Value{word(long + "b"), word("b" + long), word(long[1000:]), word(long + "\xFF")})
	lets(t, l, 5, []api.Value{raw(long), raw(long[904:])}, []api.Value{word(long), raw(long[905:])})
	lets(t, l, 6, []api.Value{with(1001, 0, null), with(1000, 0, null)}, []api.Value{with(999, 0, null)})
	lets(t, l, 7, []api.Value{with(1000, 0, null)}, []api.Value{with(1001, 0, null)})
	lets(t, l, 8, []api.Value{object("")}, []api.Value{wide(1001, null)})
	lets(t, l, 9, []api.Value{null, nested(16, null), nested(400, null)}, []api.Value{nested(400, one), nested(400, list(null, null)), nested(400, list())})
}

// A wrong value is in no type also where a great one is, and where it stands in one.
func TestHasOfWrongAmongGreatValues(t *testing.T) {
	l := these(everything(0))
	for _, v := range wrongs() {
		for _, w := range []api.Value{nested(40, v), mapped(40, v), list(append(copies(1500, null), v)...), list(append([]api.Value{v}, copies(1500, null)...)...), object("a b", word(strings.Repeat("a", 5000)), v)} {
			has(t, l, 0, w, false)
		}
		w := wide(1500, one)
		w.List[750] = v
		has(t, l, 0, w, false)
	}
}

// What no type names of a value is asked all the same; where a way ends ahead of it, the value is let be by none either.
func TestHasOfWrongPartsThatOneWayLeaves(t *testing.T) {
	l := these(everything(0), ofArrays(arr(-1, 0, -1, 0), arr(0, 0, -1, 0, 0)), ofMaps(maps(-1, "a0"), maps(0, "a0! b0")))
	lets(t, l, 1, []api.Value{list(one), list(one, one), list(one, one, one)}, []api.Value{list(boolean(2)), list(one, boolean(2)), list(one, one, boolean(2))})
	lets(t, l, 2, []api.Value{object("a", one), object("a b", one, one), object("a z", one, one)}, []api.Value{object("a", boolean(2)), object("a b", one, boolean(2)), object("a z", one, boolean(2)), object("z a", one, one)})
}
