package mix_test

import (
	"reflect"
	"testing"

	"entrepot/api"
	"entrepot/mix"
	"entrepot/types"
)

// Promise 14.1: Clean.

// cleans holds Clean against an answer: it is the same again, shares nothing with what was handed in, nor within, and changes nothing.
func cleans(t *testing.T, l []api.Type, i int, want []api.Type) {
	t.Helper()
	given := clones(l)
	got, k := mix.Clean(given, i)
	if !same(got, want) || k != 0 {
		t.Errorf("Clean(%s, %d) = %s, %d, not %s", show(l), i, show(got), k, show(want))
	}
	apart(t, got)
	again, _ := mix.Clean(given, i)
	if !reflect.DeepEqual(given, l) {
		t.Errorf("Clean(%s, %d): changed", show(l), i)
	}
	spoil(given)
	if !same(again, want) {
		t.Errorf("Clean(%s, %d) = %s, later", show(l), i, show(again))
	}
	if twice, k := mix.Clean(want, 0); !same(twice, want) || k != 0 {
		t.Errorf("Clean(%s, 0) = %s, %d: not as it was", show(want), show(twice), k)
	}
}

// marked is a type by its mark, so that it is known wherever it is.
func marked(t api.Type, n int) api.Type {
	t.Bytes = []api.Size{size(n, n)}
	return t
}

func TestClean(t *testing.T) {
	cleans(t, these(nothing), 0, these(nothing))
	cleans(t, these(everything(0)), 0, these(everything(0)))
	cleans(t, these(marked(nothing, 1), marked(nothing, 2), marked(nothing, 3)), 1, these(marked(nothing, 2)))
	cleans(t, these(marked(everything(1), 1), everything(1), marked(nothing, 3)), 1, these(everything(0)))               // to itself alone
	cleans(t, these(marked(nothing, 1), everything(2), marked(nothing, 3)), 1, these(everything(1), marked(nothing, 3))) // to some
	cleans(t, these(everything(2), marked(everything(0), 1), marked(everything(1), 2)), 1, these(marked(everything(1), 1), everything(2), marked(everything(0), 2)))
	cleans(t, these(nothing, nothing, ofArrays(arr(-1, 0, -1, 0, 1))), 2, these(ofArrays(arr(-1, 0, -1, 1, 2)), nothing, nothing)) // like ones stay two
	cleans(t, these(everything(1), everything(0)), 0, these(everything(1), everything(0)))
	cleans(t, these(everything(1), everything(0)), 1, these(everything(1), everything(0)))
}

// What stands in a type stays as it is, empty sets and spans in any order, too.
func TestCleanLeavesWhatStandsThere(t *testing.T) {
	x := api.Type{
		Null: true, True: true, Ints: spans("5..1 2..3 1 3..4"), Exact: spans("9 ..-7 9"), Floats: 21,
		Texts: []api.Texts{texts(1, 2, "b", "a", "b"), texts(0, -1), texts(4, 3, "c*")}, Bytes: []api.Size{size(3, 2), size(1, 2), size(3, -1), size(1, 2)},
		Arrays: []api.Arr{arr(1, 2, 1), arr(-1, 0, -1), arr(1, 0, 0)}, Maps: []api.Map{maps(-1, ""), maps(1, "a1! b1"), maps(-1, "a1!")},
	}
	cleans(t, these(x, api.Type{Null: true}), 0, these(x, api.Type{Null: true}))
	y := x
	y.Arrays, y.Maps = []api.Arr{arr(0, 2, 1), arr(-1, 0, -1), arr(0, 0, 0)}, []api.Map{maps(-1, ""), maps(0, "a0! b0"), maps(-1, "a0!")}
	z := x
	z.Arrays, z.Maps = []api.Arr{arr(2, 2, 1), arr(-1, 0, -1), arr(2, 0, 0)}, []api.Map{maps(-1, ""), maps(2, "a2! b2"), maps(-1, "a2!")}
	cleans(t, these(nothing, nothing, z), 2, these(y))
	cleans(t, these(nothing, z, api.Type{True: true}), 1, these(x, api.Type{True: true}))
}

// The new numbers: by Arrays, then Maps, by Prefix, then Rest, by Fields, then Rest; type by type.
func TestCleanOrder(t *testing.T) {
	leaf := func(n int) api.Type { return marked(nothing, n) }
	leaves := func(root api.Type, l ...int) []api.Type { // behind a root, those that were 1, 2 ..
		out := these(root)
		for _, n := range l {
			out = append(out, leaf(n))
		}
		return out
	}
	with := func(arrays []api.Arr, maps ...api.Map) api.Type { return api.Type{Arrays: arrays, Maps: maps} }
	for _, c := range []struct {
		from, to api.Type
		order    []int
	}{
		{ofArrays(arr(1, 0, -1, 3, 2)), ofArrays(arr(3, 0, -1, 1, 2)), []int{3, 2, 1}},
		{ofArrays(arr(2, 0, -1), arr(1, 0, -1)), ofArrays(arr(1, 0, -1), arr(2, 0, -1)), []int{2, 1}},
		{ofArrays(arr(4, 0, -1, 3), arr(2, 0, -1, 1)), ofArrays(arr(2, 0, -1, 1), arr(4, 0, -1, 3)), []int{3, 4, 1, 2}},
		{ofArrays(arr(3, 0, -1, 3, 1, 3, 1, 2)), ofArrays(arr(1, 0, -1, 1, 2, 1, 2, 3)), []int{3, 1, 2}},
		{ofArrays(arr(-1, 0, -1, 2, 0, 1)), ofArrays(arr(-1, 0, -1, 1, 0, 2)), []int{2, 1}},
		{ofMaps(maps(1, "a3 b2")), ofMaps(maps(3, "a1 b2")), []int{3, 2, 1}},
		{ofMaps(maps(2, ""), maps(1, "")), ofMaps(maps(1, ""), maps(2, "")), []int{2, 1}},
		{ofMaps(maps(4, "x3"), maps(2, "a1!")), ofMaps(maps(2, "x1"), maps(4, "a3!")), []int{3, 4, 1, 2}},
		{ofMaps(maps(-1, "a2 b0! c1")), ofMaps(maps(-1, "a1 b0! c2")), []int{2, 1}},
		{with([]api.Arr{arr(4, 0, -1)}, maps(1, "a2")), with([]api.Arr{arr(1, 0, -1)}, maps(3, "a2")), []int{4, 2, 1}}, // Arrays ahead of Maps
		{with([]api.Arr{arr(5, 0, -1, 6), arr(-1, 0, -1, 4)}, maps(2, "a3"), maps(1, "")), with([]api.Arr{arr(2, 0, -1, 1), arr(-1, 0, -1, 3)}, maps(5, "a4"), maps(6, "")), []int{6, 5, 4, 3, 2, 1}},
		{with([]api.Arr{arr(2, 0, -1)}, maps(1, "a2")), with([]api.Arr{arr(1, 0, -1)}, maps(2, "a1")), []int{2, 1}},
		{ofArrays(arr(2, 3, 1, 1), arr(4, 0, 0, 3)), ofArrays(arr(2, 3, 1, 1), arr(4, 0, 0, 3)), []int{1, 2, 3, 4}}, // also where no array can be so
	} {
		cleans(t, leaves(c.from, 1, 2, 3, 4, 5, 6), 0, leaves(c.to, c.order...))
	}
}

// Those that a type leads to stand behind all that are there, those of types ahead of it first.
func TestCleanOrderTypeByType(t *testing.T) {
	list := func(mark int, l ...int) api.Type { return marked(ofArrays(arr(-1, 0, -1, l...)), mark) }
	cleans(t, these(list(0, 1, 4), list(1, 2, 3), list(2), list(3), list(4, 5, 6), list(5), list(6)), 0,
		these(list(0, 1, 2), list(1, 3, 4), list(4, 5, 6), list(2), list(3), list(5), list(6)))
	cleans(t, these(list(0, 1, 2), list(1, 3), list(2, 4), list(3, 5), list(4), list(5)), 0,
		these(list(0, 1, 2), list(1, 3), list(2, 4), list(3, 5), list(4), list(5)))
	cleans(t, these(list(0, 3), list(1, 0), list(2, 1), list(3, 2)), 2,
		these(list(2, 1), list(1, 2), list(0, 3), list(3, 0)))
	cleans(t, these(list(0), list(1, 3, 0), list(2, 1), list(3, 2, 0, 4), list(4, 1)), 1,
		these(list(1, 1, 2), list(3, 3, 2, 4), list(0), list(2, 0), list(4, 0)))
	cleans(t, these(list(0, 2), list(1, 2), list(2, 0, 1)), 1,
		these(list(1, 1), list(2, 2, 0), list(0, 1)))
}

// A long way, backwards; and each of 200 from each.
func TestCleanOfMany(t *testing.T) {
	var chain, ring, turned, all []api.Type
	for k := range 200 {
		chain = append(chain, marked(ofMaps(maps(k-1, "")), k))
		ring = append(ring, ofArrays(arr((k+7)%200, 0, -1)))
		turned = append(turned, ofArrays(arr((k+1)%200, 0, -1)))
		all = append(all, everything(k))
	}
	for _, i := range []int{0, 1, 2, 99, 198, 199} {
		var want []api.Type
		for k := range i + 1 {
			next := k + 1
			if k == i {
				next = -1
			}
			want = append(want, marked(ofMaps(maps(next, "")), i-k))
		}
		cleans(t, chain, i, want)
		cleans(t, ring, i, turned)
		cleans(t, all, i, these(everything(0)))
	}
}

// walked holds Clean against what its order is: told by a second way.
func walked(t *testing.T, l []api.Type, i int) []api.Type {
	t.Helper()
	got, k := mix.Clean(l, i)
	if k != 0 || len(got) == 0 || types.May(got) != api.OK {
		t.Fatalf("Clean(%s, %d) = %s, %d", show(l), i, show(got), k)
	}
	seen := []int{i} // of each new type the old number, in the order in which they are read
	for n := 0; n < len(seen); n++ {
		old, now := leads(l[seen[n]]), leads(got[n])
		if len(old) != len(now) {
			t.Fatalf("Clean(%s, %d): type %d", show(l), i, n)
		}
		for m := range old {
			switch {
			case (old[m] == -1) != (now[m] == -1) || now[m] > len(seen):
				t.Fatalf("Clean(%s, %d): type %d leads to %d", show(l), i, n, now[m])
			case now[m] == len(seen):
				seen = append(seen, old[m])
			case now[m] >= 0 && seen[now[m]] != old[m]:
				t.Fatalf("Clean(%s, %d): %d for %d", show(l), i, now[m], old[m])
			}
		}
		if a, b := clones(l[seen[n]:seen[n]+1]), clones(got[n:n+1]); !same(unled(a), unled(b)) {
			t.Fatalf("Clean(%s, %d): type %d is another one", show(l), i, n)
		}
	}
	once := map[int]int{}
	for _, n := range seen {
		once[n]++
	}
	if len(seen) != len(got) || len(once) != len(seen) {
		t.Fatalf("Clean(%s, %d): %v", show(l), i, seen)
	}
	return got
}

// leads is the numbers in a type, in their order.
func leads(t api.Type) []int {
	var out []int
	for _, a := range t.Arrays {
		out = append(append(out, a.Prefix...), a.Rest)
	}
	for _, m := range t.Maps {
		for _, f := range m.Fields {
			out = append(out, f.Type)
		}
		out = append(out, m.Rest)
	}
	return out
}

// unled is types without the numbers in them.
func unled(l []api.Type) []api.Type {
	for _, t := range l {
		for k := range t.Arrays {
			t.Arrays[k].Rest = 0
			clear(t.Arrays[k].Prefix)
		}
		for k := range t.Maps {
			t.Maps[k].Rest = 0
			for n := range t.Maps[k].Fields {
				t.Maps[k].Fields[n].Type = 0
			}
		}
	}
	return l
}
