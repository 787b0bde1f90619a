package incl_test

import (
	"slices"
	"strings"
	"testing"

	"entrepot/api"
	"entrepot/value"
)

func depthOf(v api.Value) int { return value.Depth(v) }

// chain is n types, each of which is an array of just one of the next, and last.
func chain(n int, last api.Type) []api.Type {
	var l []api.Type
	for i := range n {
		l = append(l, ofArrays(arr(i+1, 1, 1)))
	}
	return append(l, last)
}

// Promise 15.1: what is told apart only by values that are too deep, too long or of too many nodes is Unknown.
func TestTooDeep(t *testing.T) {
	l := chain(17, api.Type{Null: true})
	for i := range l {
		want := api.No
		if 18-i > api.MaxDepth {
			want = api.Unknown
		}
		if v := asks(t, l, i, noType, want); want == api.No && depthOf(v) != 18-i {
			t.Error(i, brief(v))
		}
	}
	asks(t, append(l, api.Type{}), 1, 18, api.Unknown)
	asks(t, append(l, api.Type{}), 2, 18, api.No)
	round := chain(17, api.Type{})[:17] // an array within 16 others is the first that may be null
	round[16] = withNull(ofArrays(arr(0, 1, 1)))
	asks(t, round, 0, noType, api.Unknown)
	for i := 1; i < 17; i++ {
		asks(t, round, i, noType, api.No)
	}
	members := these(ofMaps(maps(-1, "a1!")))
	for i := range 16 {
		members = append(members, ofMaps(api.Map{Fields: []api.Field{{Name: "a", Type: i + 2, Must: true}}, Rest: -1}))
	}
	members = append(members, api.Type{Null: true})
	asks(t, members, 1, noType, api.Unknown)
	asks(t, members, 2, noType, api.No)
}

// A value of a that is not too deep is shown where another one, that is found first, is.
func TestDeepOnlyByOneWay(t *testing.T) {
	l := chain(17, api.Type{Null: true})
	l = append(l, ofArrays(arr(0, 1, 1), arr(17, 2, 2)), ofMaps(maps(-1, "a0!"), maps(-1, "b17!")), ofArrays(arr(18, 1, -1), arr(19, 2, 2)))
	for i := 18; i < 21; i++ {
		asks(t, l, i, noType, api.No)
	}
	asks(t, append(l, ofArrays(arr(17, 2, 2))), 18, 21, api.Unknown)
	asks(t, append(l, ofArrays(arr(2, 1, 1), arr(3, 2, 2))), 21, noType, api.No)
	asks(t, append(l, ofArrays(arr(2, 1, 1), arr(2, 2, 2))), 21, noType, api.Unknown)
	asks(t, append(l, ofArrays(arr(2, 1, 1), arr(17, 1000, 1000))), 21, noType, api.No)
	asks(t, append(l, ofMaps(maps(17, "b17"))), 19, 21, api.Unknown)
}

func TestTooLong(t *testing.T) {
	l := these(ofArrays(arr(1, 1000, -1)), api.Type{Null: true}, ofArrays(arr(1, 0, 1000)), ofArrays(arr(1, 1000, 1000)), ofArrays(arr(1, 0, 999)))
	asks(t, l, 0, noType, api.No)
	asks(t, l, 0, 2, api.Unknown)
	asks(t, l, 0, 3, api.Unknown)
	asks(t, l, 3, 2, api.Yes)
	if v := asks(t, l, 0, 4, api.No); len(v.List) != 1000 {
		t.Error(len(v.List))
	}
	for _, in := range []func(i int) api.Type{
		func(i int) api.Type { return ofArrays(arr(i, 1, 1)) },
		func(i int) api.Type { return ofArrays(arr(-1, 1, 2, i)) },
		func(i int) api.Type { return ofMaps(api.Map{Fields: []api.Field{{Name: "a", Type: i}}, Rest: -1}) },
		func(i int) api.Type { return ofMaps(maps(i, "")) },
	} {
		l := these(in(2), in(3), ofBytes(0, -1), ofBytes(0, 4096), in(6), in(7), ofArrays(arr(8, 0, -1)), ofArrays(arr(8, 0, 1000)), api.Type{Null: true})
		asks(t, l, 0, 1, api.Unknown)
		asks(t, l, 1, 0, api.Yes)
		asks(t, l, 4, 5, api.Unknown)
		asks(t, l, 5, 4, api.Yes)
	}
	for _, x := range []struct {
		set  api.Texts
		want int
	}{
		{texts(4096, 4096), api.No}, {texts(4096, 4096, "a*"), api.No}, {texts(2048, 2048, "é*"), api.No}, {texts(2049, 2049, "é*"), api.Unknown},
		{texts(1024, -1, "𝄞*"), api.No}, {texts(1025, -1, "𝄞*"), api.Unknown}, {texts(4096, 4096, "a*é"), api.Unknown}, {texts(4095, 4095, "a*é"), api.No},
		{texts(4096, 4096, "a*é", ".*a"), api.Yes},
	} {
		asks(t, these(ofTexts(x.set)), 0, noType, x.want)
	}
	name := strings.Repeat("n", api.MaxText)
	asks(t, these(ofMaps(api.Map{Fields: []api.Field{{Name: name, Type: 1, Must: true}}, Rest: -1}), api.Type{Null: true}), 0, noType, api.No)
}

// What is sure of all texts is sure of those that are too long.
func TestLongTextsThatAreSure(t *testing.T) {
	l := these(ofTexts(texts(3000, -1, "é*")), ofTexts(texts(0, -1, "[é-ö]*")), ofTexts(texts(0, -1, "[f-h]*|é{20,}")), ofTexts(texts(0, -1, "é*", ".{20}.*")))
	asks(t, l, 0, noType, api.Unknown)
	asks(t, l, 0, 1, api.Yes)
	asks(t, l, 0, 2, api.Yes)
	asks(t, l, 0, 3, api.Yes)
}

// Promise 15.1: 10,000 nodes may be.
func TestTooManyNodes(t *testing.T) {
	for _, x := range []struct{ outer, inner, want int }{{99, 100, api.No}, {100, 99, api.Unknown}, {9, 1000, api.No}, {10, 999, api.Unknown}, {1000, 8, api.No}, {1000, 9, api.Unknown}, {999, 9, api.No}} {
		l := these(ofArrays(arr(1, x.outer, x.outer)), ofArrays(arr(2, x.inner, x.inner)), api.Type{Null: true}, api.Type{})
		asks(t, l, 0, noType, x.want)
		asks(t, l, 0, 3, x.want)
		asks(t, l, 0, 0, api.Yes)
	}
}

// Promise 15.1: where the value that is found first has too many nodes, one that has fewer is found.
func TestFewerNodes(t *testing.T) {
	wide, deep := arr(2, 500, 500), arr(3, 1, 1)
	l := these(ofArrays(arr(1, 100, 100)), ofArrays(wide, deep), api.Type{Null: true}, ofArrays(arr(2, 1, 1)))
	if v := asks(t, l, 0, noType, api.No); value.Nodes(v) != 301 {
		t.Error(value.Nodes(v))
	}
	l[1].Arrays = []api.Arr{deep, wide}
	asks(t, l, 0, noType, api.No)
	l[1].Arrays = []api.Arr{wide, deep, arr(2, 400, 400)}
	asks(t, l, 0, noType, api.No)
	l[1].Arrays = []api.Arr{wide}
	asks(t, l, 0, noType, api.Unknown)
}

// Promise 15.1: one value that is out of four types has fewer nodes than one for each.
func TestOneForSeveral(t *testing.T) {
	rows := func(first, second, third int) api.Type { return ofArrays(arr(-1, 3, 3, first, second, third)) }
	row := func(i int) api.Type { return ofArrays(arr(i, 999, 999)) }
	l := letters(row(0), row(1), row(2))                                                     // 5, 6, 7: of null, of bools, of either
	l = append(l, rows(7, 7, 7), rows(5, 7, 7), rows(7, 5, 7), rows(7, 7, 5), rows(6, 6, 6)) // 8; 9 to 12
	l = append(l, ofMaps(maps(8, "")), ofMaps(maps(9, ""), maps(10, ""), maps(11, ""), maps(12, "")), ofArrays(arr(8, 0, -1)), ofArrays(arr(9, 0, -1), arr(10, 0, -1), arr(11, 0, -1), arr(12, 0, -1)))
	for _, a := range []int{13, 15} {
		if v := asks(t, l, a, a+1, api.No); value.Nodes(v) > 10000 {
			t.Error(value.Nodes(v))
		}
	}
}

// filler is a type of arrays that have just n nodes, from 2,010 to 10,009, and those that it leads to; k is its number.
func filler(k, n int) []api.Type {
	a := arr(k+9, 10, 10)
	out := these(api.Type{})
	left := n - 1 - 2*1000 - 8
	for i := range 8 {
		m := min(left, 1000)
		left -= m
		a.Prefix = append(a.Prefix, k+1+i)
		out = append(out, ofArrays(arr(k+10, m, m)))
	}
	out[0] = ofArrays(a)
	return append(out, ofArrays(arr(k+10, 999, 999)), api.Type{Null: true})
}

// Promise 15.1: a value may be that has just so many nodes more as there may be beside the fewest that there are by
// the second way, and one more may not.
func TestFewestNodes(t *testing.T) {
	random := seeded(19)
	told := map[int]int{}
	for range 1200 {
		l := wild(random, 4, 3, 2, 3)
		needy(l)
		_, nodes := profilesOf(l, []api.Value{null}).levels()
		for a := range l {
			for b := noType; b < len(l); b++ {
				least := 0
				for x, n := range nodes {
					if x>>a&1 == 1 && (b == noType || x>>b&1 == 0) && (least == 0 || n < least) {
						least = n
					}
				}
				if key := min(least, 7); least < 2 || told[key] > 50 {
					continue
				}
				told[min(least, 7)]++
				justSoMany(t, l, a, b, least)
			}
		}
	}
	for _, n := range []int{2, 3, 4, 5, 6, 7} {
		if told[n] < 10 {
			t.Error(told)
		}
	}
}

func justSoMany(t *testing.T, l []api.Type, a, b, least int) {
	t.Helper()
	for more, want := range []int{api.No, api.Unknown} {
		k := len(l)
		m := append(slices.Clone(l), filler(k, 9999-least+more)...)
		m = append(m, everything(len(m)))
		root := len(m)
		m = append(m, ofArrays(arr(-1, 2, 2, a, k)))
		if b == noType {
			asks(t, m, root, noType, want)
			continue
		}
		m = append(m, ofArrays(arr(-1, 2, 2, b, root-1)))
		asks(t, m, root, root+1, want)
	}
}

// Promise 15.1: of a member that must be there one is made that is out of all that others are.
func TestOneMemberForSeveral(t *testing.T) {
	rows := func(at, i int) api.Type { // 7 but at one place
		a := arr(-1, 6, 6, 7, 7, 7, 7, 7, 7)
		a.Prefix[at] = i
		return ofArrays(a)
	}
	row := func(i int) api.Type { return ofArrays(arr(i, 999, 999)) }
	l := letters(row(0), row(1), row(2))                                      // 5, 6, 7: of null, of bools, of either
	l = append(l, rows(0, 7), rows(0, 5), rows(1, 5), rows(2, 5), rows(3, 5)) // 8; 9 to 12
	l = append(l, ofMaps(maps(8, "")), ofMaps(maps(8, "f9"), maps(10, ""), maps(11, ""), maps(12, ""), maps(-1, "g8")))
	if v := asks(t, l, 13, 14, api.No); len(v.List) != 1 {
		t.Error(brief(v))
	}
	l = append(l, ofArrays(arr(8, 2, 2), arr(8, 1, 1)), ofArrays(arr(9, 0, -1), arr(10, 0, -1)))
	if v := asks(t, l, 15, 16, api.No); len(v.List) != 1 {
		t.Error(brief(v))
	}
}

// needy makes types of which the last one alone has a value without parts.
func needy(l []api.Type) {
	for i := range l {
		t := &l[i]
		t.Null, t.True, t.False = i == len(l)-1, false, false
		for k := range t.Arrays {
			t.Arrays[k].Size.Min = max(1, t.Arrays[k].Size.Min)
		}
		t.Maps = slices.DeleteFunc(t.Maps, func(m api.Map) bool { return len(m.Fields) == 0 })
		for _, m := range t.Maps {
			m.Fields[0].Must = true
		}
	}
}
