package incl_test

import (
	"testing"

	"entrepot/api"
	"entrepot/float"
	"entrepot/incl"
	"entrepot/value"
)

// least holds Least against Has and Empty.
func least(t *testing.T, l []api.Type, a int) (api.Value, bool) {
	t.Helper()
	v, ok := incl.Least(l, a)
	verdict, _ := incl.Empty(l, a, enough)
	if ok != (verdict == api.No) || ok && (value.May(v) != api.OK || !has(l, a, v)) || !ok && !value.Same(v, api.Value{}) {
		t.Errorf("Least(%s, %d) = %s, %v", show(l), a, brief(v), ok)
	}
	again, _ := incl.Least(l, a)
	if !value.Same(v, again) {
		t.Errorf("Least(%s, %d) = %s, later", show(l), a, brief(again))
	}
	return v, ok
}

// Promise 15.3: of each part alone, where one value alone is such.
func TestLeast(t *testing.T) {
	for _, x := range []struct {
		t    api.Type
		want api.Value
	}{
		{api.Type{Null: true}, null},
		{api.Type{False: true}, no},
		{api.Type{True: true}, yes},
		{ofInts("7"), number("7")},
		{ofInts("-max"), number("-max")},
		{ofExact("2^53+1..2^53+2"), number("2^53+2")},
		{ofFloats(api.FInf), bits(infinity)},
		{ofFloats(api.FNeg), bits(minusInfinity)},
		{ofFloats(api.FNaN), bits(float.NaN)},
		{ofTexts(texts(0, 0)), word("")},
		{ofTexts(texts(0, -1, "ab?c", ".{3}")), word("abc")},
		{ofBytes(0, 0), raw("")},
		{ofArrays(arr(-1, 0, -1)), list()},
		{ofArrays(arr(-1, 0, -1), arr(1, 0, -1)), list()},
		{ofArrays(arr(1, 2, 2)), list(null, null)},
		{ofArrays(arr(-1, 2, 2, 1, 2)), list(null, yes)},
		{ofMaps(maps(-1, "")), object("")},
		{ofMaps(maps(-1, "a1! b2!")), object("a b", null, yes)},
	} {
		l := these(x.t, api.Type{Null: true}, api.Type{True: true})
		if v, ok := least(t, l, 0); !ok || !value.Same(v, x.want) {
			t.Errorf("%s: %s, %v", show(l), brief(v), ok)
		}
	}
	for _, x := range []api.Type{ofFloats(api.FPlain), ofFloats(api.FFine), ofInts(".."), ofBytes(4096, -1), ofTexts(texts(4096, 4096)), ofArrays(arr(1, 1000, 1000)), everything(0)} {
		if _, ok := least(t, these(x, api.Type{Null: true}), 0); !ok {
			t.Errorf("%s: nothing", show(these(x)))
		}
	}
}

// Promise 15.3: where Empty tells no No.
func TestLeastOfNothing(t *testing.T) {
	for _, x := range []api.Type{
		{}, ofInts("2..1"), ofExact("2^53+1"), ofTexts(texts(2, 1)), ofTexts(texts(0, -1, "a", "b")), ofBytes(1, 0), ofArrays(arr(0, 1, -1)), ofMaps(maps(-1, "a0!")), ofArrays(arr(1, 1, -1)),
		ofTexts(texts(4096, 4096, "é*")), ofArrays(arr(-1, 1, 1, 2)), ofArrays(arr(3, 1000, -1)),
	} {
		l := append(these(x, api.Type{}), chain(16, api.Type{Null: true})...)
		for i := range l[2:18] {
			l[2+i].Arrays = []api.Arr{arr(3+i, 1, 1)}
		}
		if v, ok := least(t, l, 0); ok {
			t.Errorf("%s: %s", show(l), brief(v))
		}
	}
}

// Promise 15.3: types in rounds.
func TestLeastInRounds(t *testing.T) {
	l := these(ofArrays(arr(0, 0, 1)), ofArrays(arr(2, 1, -1)), ofMaps(maps(-1, "a3! b2")), withNull(ofArrays(arr(1, 2, 2))), ofMaps(maps(5, "a4!")), ofArrays(arr(4, 1, 1)))
	for i, want := range []api.Value{list(), list(object("a", null)), object("a", null), null} {
		if v, ok := least(t, l, i); !ok || !value.Same(v, want) {
			t.Errorf("%s: %s, %v", show(l), brief(v), ok)
		}
	}
	for i := 4; i < 6; i++ {
		if _, ok := least(t, l, i); ok {
			t.Errorf("%s: %d", show(l), i)
		}
	}
}

// Promises 15.1 and 15.3: Empty is Include in a type without values.
func TestEmptyIsInNothing(t *testing.T) {
	random := seeded(21)
	seen := map[int]int{}
	for range 300 {
		l := append(wild(random, 4, 3, 2, 3), api.Type{}, ofArrays(arr(-1, 1, 0)))
		n := len(l)
		for a := range l {
			want, v := incl.Empty(l, a, enough)
			for b := n - 2; b < n; b++ {
				if got, w := told(t, l, a, b, enough); got != want || !value.Same(v, w) && got != api.No {
					t.Errorf("%s: %d: %s, %s", show(l), a, named(got), named(want))
				}
			}
			least(t, l, a)
			seen[want]++
		}
	}
	if seen[api.Yes] < 300 || seen[api.No] < 300 {
		t.Error(seen)
	}
}
