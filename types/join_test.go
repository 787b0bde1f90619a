package types_test

import (
	"math"
	"reflect"
	"testing"

	"entrepot/api"
	"entrepot/types"
)

// Promise 13.3: Join.

// many is a type with all parts, in which each place has a number of its own.
func many() api.Type {
	return api.Type{
		Null: true, True: true, Ints: spans("1..2 5.."), Exact: spans("..-7 9"), Floats: 21,
		Texts: []api.Texts{texts(1, 2, "a", "b"), texts(0, -1), texts(3, -1, "c*")}, Bytes: []api.Size{size(1, 2), size(3, -1)},
		Arrays: []api.Arr{arr(0, 0, -1), arr(-1, 1, 2, 1, 2, 0), arr(2, 3, 900, 0, 0), arr(-1, 0, 0)},
		Maps:   []api.Map{maps(1, ""), maps(-1, "a0 b1! c2"), maps(2, "b2! d0"), maps(-1, "")},
	}
}

// further is many with its numbers greater by n, written out once more.
func further(n int) api.Type {
	t := many()
	t.Arrays = []api.Arr{arr(n, 0, -1), arr(-1, 1, 2, n+1, n+2, n), arr(n+2, 3, 900, n, n), arr(-1, 0, 0)}
	t.Maps = []api.Map{
		{Rest: n + 1},
		{Rest: -1, Fields: []api.Field{{Name: "a", Type: n}, {Name: "b", Type: n + 1, Must: true}, {Name: "c", Type: n + 2}}},
		{Rest: n + 2, Fields: []api.Field{{Name: "b", Type: n + 2, Must: true}, {Name: "d", Type: n}}},
		{Rest: -1},
	}
	return t
}

// joins holds Join against an answer: it is the same again, shares nothing with what was handed in, nor within, and changes nothing.
func joins(t *testing.T, a, b, want []api.Type) {
	t.Helper()
	x, y := clones(a), clones(b)
	got, n := types.Join(x, y)
	if !same(got, want) || n != len(a) {
		t.Errorf("Join(%s, %s) = %s, %d, not %s", show(a), show(b), show(got), n, show(want))
	}
	for i := range got { // what one type has is no other's
		kept := clones(got)
		spoil(got[i : i+1])
		for k := range got {
			if k != i && !same(got[k:k+1], kept[k:k+1]) {
				t.Errorf("Join(%s, %s): types %d and %d share", show(a), show(b), i, k)
			}
		}
	}
	_ = append(got, make([]api.Type, cap(got)-len(got))...)
	if !reflect.DeepEqual(x, a) || !reflect.DeepEqual(y, b) {
		t.Errorf("Join(%s, %s): changed", show(a), show(b))
	}
	got, _ = types.Join(x, y)
	spoil(x)
	spoil(y)
	if !same(got, want) {
		t.Errorf("Join(%s, %s) = %s, later", show(a), show(b), show(got))
	}
}

func TestJoin(t *testing.T) {
	few := these(many(), api.Type{Null: true}, ofArrays(arr(1, 0, -1)))
	joins(t, nil, nil, nil)
	joins(t, these(), these(), nil)
	joins(t, few, nil, few)
	joins(t, nil, few, few)
	joins(t, few, few, these(many(), api.Type{Null: true}, ofArrays(arr(1, 0, -1)), further(3), api.Type{Null: true}, ofArrays(arr(4, 0, -1))))
	joins(t, these(api.Type{Null: true}), these(ofMaps(maps(0, ""))), these(api.Type{Null: true}, ofMaps(maps(1, ""))))
	joins(t, these(ofMaps(maps(0, "a0"))), these(api.Type{}), these(ofMaps(maps(0, "a0")), api.Type{}))
	for n := range 150 {
		l := copies(n, api.Type{True: true})
		joins(t, l, few, append(clones(l), further(n), api.Type{Null: true}, ofArrays(arr(n+1, 0, -1))))
		joins(t, few, l, append(clones(few), l...))
	}
}

// The same list handed in twice, and lists that share.
func TestJoinOfOneAndItself(t *testing.T) {
	l := these(many(), many(), many())
	got, n := types.Join(l, l)
	want := these(many(), many(), many(), further(3), further(3), further(3))
	if !same(got, want) || n != 3 {
		t.Errorf("%s, %d", show(got), n)
	}
	shared := copies(3, many()) // one memory for all three
	joins(t, shared, shared[:2], these(many(), many(), many(), further(3), further(3)))
}

// More than may be together is told all the same, and may not be.
func TestJoinOfMoreThanMayBe(t *testing.T) {
	for _, n := range []int{1, 100, 199, 200} {
		for _, m := range []int{1, 2, 100, 101, 200} {
			a, b := copies(n, everything(0)), copies(m, everything(0))
			joins(t, a, b, append(clones(a), copies(m, everything(n))...))
			got, _ := types.Join(a, b)
			if want := n+m <= 200; (types.May(got) == api.OK) != want || !want && types.May(got) != api.ErrLimit {
				t.Errorf("%d and %d: %d", n, m, types.May(got))
			}
		}
	}
	joins(t, make([]api.Type, 3000), these(ofMaps(maps(0, ""))), append(make([]api.Type, 3000), ofMaps(maps(3000, ""))))
}

// Types that may not be are joined as others are; numbers that are no type's, being less than 0, stay as they are.
func TestJoinOfTypesThatMayNotBe(t *testing.T) {
	a := these(api.Type{Floats: 99, Ints: []api.Span{{Lo: num("1")}}, Texts: []api.Texts{texts(-3, -4, "(", "\xFF")}, Bytes: []api.Size{size(-1, 5000)}}, ofArrays(arr(7, -1, 5000, 9, -9)))
	b := these(ofArrays(arr(5, 9, -9, copies(12, 6)...)), ofMaps(maps(50, "b60 a70! a80")), ofMaps(copies(30, api.Map{Fields: copies(60, api.Field{Name: "\xFF", Type: 4})})...), ofArrays(arr(-1, 0, 0, -1, -1)), ofMaps(maps(-1, "a-1")))
	moved := these(ofArrays(arr(7, 9, -9, copies(12, 8)...)), ofMaps(maps(52, "b62 a72! a82")), ofMaps(copies(30, api.Map{Rest: 2, Fields: copies(60, api.Field{Name: "\xFF", Type: 6})})...), ofArrays(arr(-1, 0, 0, -1, -1)), ofMaps(maps(-1, "a-1")))
	joins(t, a, b, append(clones(a), moved...))
	joins(t, b, a, append(clones(b), a[0], ofArrays(arr(12, -1, 5000, 14, -9))))
	for _, i := range []int{-1, -2, math.MinInt, math.MaxInt, 1 << 40} {
		for n := range 3 {
			l, k := types.Join(make([]api.Type, n), these(ofArrays(arr(-1, 0, -1, i)), ofMaps(api.Map{Rest: -1, Fields: []api.Field{{Name: "a", Type: i}}})))
			if k != n || len(l) != n+2 || types.May(l) != api.ErrArg {
				t.Errorf("%d: %s, %d", i, show(l), k)
			}
		}
	}
}

// Types mean what they meant, by their new numbers.
func TestHasOfJoin(t *testing.T) {
	random := seeded(3)
	seen := map[bool]int{}
	leaves := small()
	for range 1500 {
		a, b := typed(random), typed(random)
		joined, n := types.Join(a, b)
		may(t, joined, api.OK)
		for range 8 {
			v := scattered(random, leaves, 3)
			for i := range a {
				has(t, joined, i, v, types.Has(a, i, v))
			}
			for i := range b {
				want := types.Has(b, i, v)
				has(t, joined, n+i, v, want)
				seen[want]++
			}
		}
	}
	if seen[true] < 3000 || seen[false] < 3000 {
		t.Error(seen)
	}
}
