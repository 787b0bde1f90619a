package mix_test

import (
	"strconv"
	"testing"

	"entrepot/api"
	"entrepot/mix"
	"entrepot/types"
)

// Promises 14.1 and 14.2: Or.

// single is parts of types, each alone or a few at once. In a list behind letters they have types to lead to.
func single() []api.Type {
	return []api.Type{
		{}, {Null: true}, {False: true}, {True: true},
		{Ints: spans("..")}, {Ints: spans("1..5")}, {Ints: spans("0 2..5 6")}, {Ints: spans("..-1")}, {Ints: spans("2^53+1 2^64 max")}, {Ints: spans("5..1")}, {Ints: spans("6.. -1")},
		{Exact: spans("..")}, {Exact: spans("2^53..2^53+2")}, {Exact: spans("2^53+1 2^64-1 max -max")}, {Exact: spans("5..6")},
		{Ints: spans("2^53+1"), Exact: spans("2^53..2^53+2")}, {Ints: spans("-2^63..2^64-1"), Exact: spans("..")},
		{Floats: api.FPlain}, {Floats: api.FFine}, {Floats: api.FInf}, {Floats: api.FNeg}, {Floats: api.FNaN}, {Floats: api.FAll}, {Floats: api.FInf | api.FNeg | api.FPlain},
		{Texts: []api.Texts{texts(0, -1)}}, {Texts: []api.Texts{texts(1, 1)}}, {Texts: []api.Texts{texts(2, 3)}}, {Texts: []api.Texts{texts(0, -1, "a*")}}, {Texts: []api.Texts{texts(0, 2, "a*", "..?"), texts(0, 0), texts(3, 2)}}, {Texts: []api.Texts{texts(0, -1, "ab|é")}},
		{Bytes: []api.Size{size(0, -1)}}, {Bytes: []api.Size{size(0, 0)}}, {Bytes: []api.Size{size(1, 2)}}, {Bytes: []api.Size{size(2, -1)}}, {Bytes: []api.Size{size(3, 1), size(3, -1), size(0, 0)}},
		ofArrays(arr(-1, 0, -1)), ofArrays(arr(0, 0, -1)), ofArrays(arr(2, 1, -1)), ofArrays(arr(0, 2, 2, 2)), ofArrays(arr(-1, 0, 1, 3, 3), arr(2, 1, 1)),
		ofMaps(maps(-1, "")), ofMaps(maps(0, "")), ofMaps(maps(-1, "a2")), ofMaps(maps(3, "a2!")), ofMaps(maps(-1, "a3! b0"), maps(2, "")),
		{True: true, Ints: spans("5"), Floats: api.FNaN, Texts: []api.Texts{texts(0, 0)}, Bytes: []api.Size{size(1, 1)}, Arrays: []api.Arr{arr(-1, 0, 0)}, Maps: []api.Map{maps(-1, "")}},
		{Null: true, False: true, True: true, Ints: spans(".."), Floats: api.FAll, Texts: []api.Texts{texts(0, -1)}, Bytes: []api.Size{size(0, -1)}, Arrays: []api.Arr{arr(2, 0, -1)}, Maps: []api.Map{maps(2, "")}},
	}
}

func TestOrOfWords(t *testing.T) {
	for _, c := range []struct {
		a, b api.Type
		want string
	}{
		{api.Type{}, api.Type{}, ""},
		{api.Type{Null: true}, api.Type{}, "null"},
		{api.Type{False: true}, api.Type{True: true}, "false true"},
		{api.Type{False: true}, api.Type{False: true, Null: true}, "null false"},
		{api.Type{Ints: spans("1")}, api.Type{Ints: spans("5..6")}, "1 5 6"},
		{api.Type{Ints: spans("5..5")}, api.Type{Ints: spans("6 0..1")}, "0 1 5 6"},
		{api.Type{Ints: spans("2^53..2^53+1")}, api.Type{Exact: spans("2^53+1..2^53+2")}, "2^53 2^53+1 2^53+2"},
		{api.Type{Exact: spans("2^53..2^53+1")}, api.Type{Exact: spans("2^53+1..2^53+2")}, "2^53 2^53+2"},
		{api.Type{Exact: spans("2^53+1")}, api.Type{Exact: spans("2^64-1")}, ""},
		{api.Type{Exact: spans("2^64..")}, api.Type{Ints: spans("2^53+1 max")}, "2^53+1 2^64 2^64+4096 2^255 max"},
		{api.Type{Floats: api.FInf}, api.Type{Floats: api.FNeg | api.FNaN}, "inf -inf nan"},
		{api.Type{Floats: api.FInf | api.FNeg}, api.Type{Floats: api.FNeg}, "inf -inf"},
		{api.Type{Texts: []api.Texts{texts(1, 1)}}, api.Type{Texts: []api.Texts{texts(0, -1, "a*")}}, "'' 'a' 'aa' 'aaa' 'é'"},
		{api.Type{Texts: []api.Texts{texts(3, 2)}}, api.Type{Texts: []api.Texts{texts(2, 2, "a*")}}, "'aa'"},
		{api.Type{Bytes: []api.Size{size(0, 0)}}, api.Type{Bytes: []api.Size{size(2, 2)}}, "x xC3A9"},
		{api.Type{Bytes: []api.Size{size(1, 1)}}, api.Type{Texts: []api.Texts{texts(1, 1)}}, "x41 xFF 'a' 'é'"},
		{ofArrays(arr(1, 1, -1)), ofArrays(arr(-1, 0, 0)), "[] [null]"},
		{ofArrays(arr(2, 1, 1)), ofMaps(maps(2, "a2!")), "[1] {a:1}"},
		{ofMaps(maps(-1, "a1!")), ofMaps(maps(1, "a2!")), "{a:null} {a:1} {a:1,b:null}"},
		{ofMaps(maps(-1, "a1")), ofMaps(maps(2, "")), "{} {a:null} {a:1} {:1}"},
	} {
		l := these(api.Type{}, api.Type{Null: true}, api.Type{Ints: spans("1")}, c.a, c.b)
		in, out := find(t, c.want)
		for _, order := range [][2]int{{3, 4}, {4, 3}} {
			got, k := mixes(t, or, l, order[0], order[1], api.OK)
			if len(got) != 6 {
				t.Errorf("%s: not one more", show(got))
			}
			lets(t, got, k, in, out)
		}
	}
}

// Each part is put together with each, and with itself.
func TestOrOfEachPart(t *testing.T) {
	l := letters(single()...)
	for i := range l {
		for j := range i + 1 {
			follows(t, or, l, i, j, poolValues())
		}
	}
}

// One type more, whatever they lead to.
func TestOrHasOneMore(t *testing.T) {
	l := these(everything(0), everything(0), ofArrays(arr(2, 0, 3, 3)), ofMaps(maps(2, "a0 b2!")))
	for i := range l {
		for j := range l {
			if got, k := mixes(t, or, l, i, j, api.OK); len(got) != 5 || k != 4 {
				t.Errorf("%d, %d: %s, %d", i, j, show(got), k)
			}
		}
	}
	for n := 1; n <= 199; n++ {
		got, k, e := mix.Or(make([]api.Type, n), n-1, 0)
		if len(got) != n+1 || k != n || e != api.OK {
			t.Errorf("%d: %d, %d, %d", n, len(got), k, e)
		}
	}
}

func TestOrOfMaxTypes(t *testing.T) {
	l := copies(199, everything(7))
	l[3], l[198] = api.Type{Null: true}, api.Type{Ints: spans("1")}
	got, k := mixes(t, or, l, 3, 198, api.OK)
	lets(t, got, k, []api.Value{null, one}, []api.Value{no, half, number("2"), list()})
	mixes(t, or, l, 3, 3, api.OK)
	l = append(l, api.Type{})
	for _, i := range []int{0, 3, 198, 199} {
		for _, j := range []int{0, 3, 198, 199} {
			mixes(t, or, l, i, j, api.ErrLimit)
		}
	}
}

// parted is a type of n parts of a kind, all alike or each another one.
func parted() []func(n int) api.Type {
	each := func(n int, put func(k int)) {
		for k := range n {
			put(k)
		}
	}
	return []func(n int) api.Type{
		func(n int) api.Type { return api.Type{Texts: make([]api.Texts, n)} },
		func(n int) api.Type { return api.Type{Bytes: make([]api.Size, n)} },
		func(n int) api.Type { return api.Type{Arrays: make([]api.Arr, n)} },
		func(n int) api.Type { return api.Type{Maps: make([]api.Map, n)} },
		func(n int) (t api.Type) {
			each(n, func(k int) { t.Texts = append(t.Texts, texts(k, -1, names(k + 1)[k], "a")) })
			return t
		},
		func(n int) (t api.Type) {
			each(n, func(k int) { t.Bytes = append(t.Bytes, size(3*k, 3*k+1)) })
			return t
		},
		func(n int) (t api.Type) {
			each(n, func(k int) { t.Arrays = append(t.Arrays, arr(-1, k, k, k%2, k/2%2)) })
			return t
		},
		func(n int) (t api.Type) {
			each(n, func(k int) {
				t.Maps = append(t.Maps, api.Map{Rest: -1, Fields: []api.Field{{Name: names(k + 1)[k], Type: 0, Must: true}}})
			})
			return t
		},
	}
}

func TestOrOfHowManyParts(t *testing.T) {
	for _, made := range parted() {
		for n := range 21 {
			for m := range 21 {
				want := api.OK
				if n+m > 20 {
					want = api.ErrLimit
				}
				if n+m >= 19 && n+m <= 22 || n == m {
					mixes(t, or, these(made(n), made(m), api.Type{Null: true}), 0, 1, want)
				}
			}
		}
	}
}

// merged is a type of so many Texts, Bytes, Arrays and Maps.
func merged(texts, bytes, arrays, maps int) api.Type {
	return api.Type{Texts: make([]api.Texts, texts), Bytes: make([]api.Size, bytes), Arrays: make([]api.Arr, arrays), Maps: make([]api.Map, maps)}
}

// As many of each kind as there may be, side by side: no two kinds are counted together.
func TestOrOfAllParts(t *testing.T) {
	mixes(t, or, these(merged(9, 9, 9, 9), merged(11, 11, 11, 11)), 0, 1, api.OK)
	for _, a := range []api.Type{merged(10, 9, 9, 9), merged(9, 10, 9, 9), merged(9, 9, 10, 9), merged(9, 9, 9, 10)} {
		mixes(t, or, these(a, merged(11, 11, 11, 11)), 0, 1, api.ErrLimit)
		mixes(t, or, these(merged(11, 11, 11, 11), a), 0, 1, api.ErrLimit)
	}
}

// comb is n numbers from one on, each so much above the one ahead.
func comb(from, step, n int) []api.Span {
	var out []api.Span
	for k := range n {
		a := number(strconv.Itoa(from + k*step)).Int
		out = append(out, api.Span{HasLo: true, Lo: a, HasHi: true, Hi: a})
	}
	return out
}

// Numbers are put together as sets: what counts is how many spans they are then.
func TestOrOfManySpans(t *testing.T) {
	for _, c := range []struct {
		a, b []api.Span
		want int
	}{
		{comb(0, 2, 1000), nil, api.OK},
		{comb(0, 2, 1000), comb(0, 2, 1000), api.OK},
		{comb(0, 2, 1000), comb(1, 2, 1000), api.OK},
		{comb(0, 2, 500), comb(1000, 2, 500), api.OK},
		{comb(0, 2, 1000), comb(-2, 2, 1), api.ErrLimit},
		{comb(0, 2, 1000), comb(-1, 2, 1), api.OK},
		{comb(0, 4, 1000), comb(2, 4, 1000), api.ErrLimit},
		{comb(0, 4, 500), comb(2, 4, 500), api.OK},
		{comb(0, 4, 501), comb(2, 4, 500), api.ErrLimit},
		{comb(0, 4, 1000), spans(".."), api.OK},
	} {
		for _, set := range []func(s []api.Span) api.Type{
			func(s []api.Span) api.Type { return api.Type{Ints: s} },
			func(s []api.Span) api.Type { return api.Type{Exact: s} },
		} {
			l := these(set(c.a), set(c.b), api.Type{})
			if c.want != api.OK {
				mixes(t, or, l, 0, 1, c.want)
				mixes(t, or, l, 1, 0, c.want)
				continue
			}
			follows(t, or, l, 0, 1, around(-3, 4010))
		}
	}
	mixes(t, or, these(api.Type{Ints: comb(0, 4, 1000)}, api.Type{Exact: comb(2, 4, 1000)}), 0, 1, api.OK) // each of the two is counted by itself
}

// around is whole numbers, at both ends all of them, and a few in the midst.
func around(from, to int) []api.Value {
	var out []api.Value
	for n := from; n <= to; n++ {
		if n < from+40 || n > to-40 || n%97 == 0 || n > 1980 && n < 2020 {
			out = append(out, number(strconv.Itoa(n)))
		}
	}
	return out
}

func TestOrOfTypesThatLeadToThemselves(t *testing.T) {
	l := these(
		api.Type{Null: true, Arrays: []api.Arr{arr(0, 0, -1)}},
		api.Type{True: true, Maps: []api.Map{maps(1, "")}},
		api.Type{Ints: spans(".."), Arrays: []api.Arr{arr(-1, 2, 2, 2, 3)}},
		api.Type{Maps: []api.Map{maps(-1, "m2!")}},
	)
	got, k := mixes(t, or, l, 0, 1, api.OK)
	lets(t, got, k, []api.Value{null, yes, list(null, list()), member("a", yes), mapped(5, object("")), nested(5, null)}, []api.Value{one, no, list(yes), list(object("")), member("a", null), member("a", list())})
	got, k = mixes(t, or, l, 2, 3, api.OK)
	lets(t, got, k, []api.Value{one, list(one, member("m", one)), member("m", one), member("m", list(one, member("m", one)))}, []api.Value{null, list(one, one), list(member("m", one), member("m", one)), member("m", member("m", one)), object("")})
	for i := range l {
		for j := range l {
			follows(t, or, l, i, j, append(poolValues(), nested(4, null), mapped(4, yes), list(one, member("m", one)), member("m", list(one, member("m", one)))))
		}
	}
}

// What is put together leads where the two lead; what they lead to stays as it is.
func TestOrLeadsOn(t *testing.T) {
	l := letters(ofArrays(arr(0, 0, -1)), ofArrays(arr(2, 1, 1), arr(1, 2, -1)), ofMaps(maps(-1, "a0! c2")), ofMaps(maps(3, "b1!")))
	got, k := mixes(t, or, l, 4, 5, api.OK)
	lets(t, got, k, rows("- n nn nnn i bb bbb"), rows("b t in ii nb bn nnb bbn"))
	got, k = mixes(t, or, l, 6, 7, api.OK)
	lets(t, got, k, records("n n.i .b tb tbt nb .bn"), records(". t nt n.t i .n ib .bi tbi"))
	got, k = mixes(t, or, l, 4, 7, api.OK)
	lets(t, got, k, append(rows("- n nnn"), records(".b tb")...), append(rows("i b"), records(". n")...))
	if types.Has(got, 0, one) || !types.Has(got, 2, one) {
		t.Error("the types ahead are not as they were")
	}
}
