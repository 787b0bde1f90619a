package incl_test

import (
	"math"
	"testing"

	"entrepot/api"
	"entrepot/incl"
	"entrepot/value"
)

// refused holds all calls against -1 and false.
func refused(t *testing.T, l []api.Type, a, b int) {
	t.Helper()
	for _, fuel := range []int{math.MinInt, 0, 1, enough, math.MaxInt} {
		if n, v := incl.Include(l, a, b, fuel); n != -1 || !value.Same(v, api.Value{}) {
			t.Errorf("Include(%s, %d, %d) = %d, %s", show(l), a, b, n, brief(v))
		}
	}
}

func refusedAlone(t *testing.T, l []api.Type, a int) {
	t.Helper()
	for _, fuel := range []int{-1, 0, enough} {
		if n, v := incl.Empty(l, a, fuel); n != -1 || !value.Same(v, api.Value{}) {
			t.Errorf("Empty(%s, %d) = %d, %s", show(l), a, n, brief(v))
		}
	}
	if v, ok := incl.Least(l, a); ok || !value.Same(v, api.Value{}) {
		t.Errorf("Least(%s, %d) = %s", show(l), a, brief(v))
	}
}

// Promise 15.1: no such numbers.
func TestNoSuchType(t *testing.T) {
	for _, l := range [][]api.Type{nil, these(api.Type{Null: true}), letters(everything(5)), copies(200, everything(0))} {
		wrong := []int{math.MinInt, -2, -1, len(l), len(l) + 1, 200, math.MaxInt}
		for _, i := range wrong {
			refusedAlone(t, l, i)
			for j := range l[:min(len(l), 3)] {
				refused(t, l, i, j)
				refused(t, l, j, i)
			}
			for _, j := range wrong {
				refused(t, l, i, j)
			}
		}
		if last := len(l) - 1; last >= 0 {
			asks(t, l, last, last, api.Yes)
			asks(t, l, last, noType, api.No)
		}
	}
}

// Promise 15.1: types that may not be, wherever they stand.
func TestTypesThatMayNotBe(t *testing.T) {
	for _, x := range []api.Type{
		{Floats: 32}, {Floats: -1}, {Ints: []api.Span{{Lo: num("1")}}}, {Exact: []api.Span{{HasHi: true, Hi: api.Int{Neg: true}}}},
		ofTexts(texts(0, -1, "(")), ofTexts(texts(0, -2)), ofTexts(texts(0, 4097)), ofTexts(texts(0, -1, "a", "b", "c", "d", "e", "f", "g", "h", "i")),
		ofBytes(-1, 0), ofBytes(0, 4097), ofArrays(arr(0, 0, 1001)), ofArrays(arr(-2, 0, 1)), ofArrays(arr(3, 0, 1)), ofArrays(arr(0, 0, 1, 3)), ofArrays(arr(0, 0, 1, -1)),
		ofArrays(arr(0, 0, 1, 0, 0, 0, 0, 0, 0, 0, 0, 0)), ofMaps(maps(3, "")), ofMaps(maps(0, "a3")), ofMaps(maps(0, "b0 a0")), ofMaps(maps(0, "a0 a0")), ofMaps(maps(0, "\xFF0")),
		{Bytes: copies(21, size(0, 0))}, {Texts: copies(21, texts(0, 0))}, {Arrays: copies(21, arr(0, 0, 0))}, {Maps: copies(21, maps(0, ""))},
		{Ints: copies(1001, api.Span{})},
	} {
		for at := range 3 {
			l := copies(3, api.Type{Null: true})
			l[at] = x
			for i := range 3 {
				refusedAlone(t, l, i)
				for j := range 3 {
					refused(t, l, i, j)
				}
			}
		}
	}
	refused(t, copies(201, api.Type{}), 0, 1)
	refusedAlone(t, copies(201, api.Type{}), 0)
}
