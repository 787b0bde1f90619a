package mix_test

import (
	"slices"
	"strconv"
	"testing"
	"time"

	"entrepot/api"
	"entrepot/mix"
)

// Promise 14.1: how much And may take.

var nothing api.Type

// padded is l and types that nothing leads to, n in all.
func padded(l []api.Type, n int) []api.Type {
	return append(clones(l), make([]api.Type, n-len(l))...)
}

// fits holds And against just as many types as it may take, and against one more.
func fits(t *testing.T, l []api.Type, takes int) {
	t.Helper()
	for _, order := range [][2]int{{0, 1}, {1, 0}} {
		i, j := order[0], order[1]
		got, k := mixes(t, and, padded(l, 200-takes), i, j, api.OK)
		if k+takes != len(got) {
			t.Errorf("And(%s, %d, %d) takes %d", show(l), i, j, len(got)-k)
		}
		mixes(t, and, padded(l, 201-takes), i, j, api.ErrLimit)
	}
}

func TestAndOfMaxTypes(t *testing.T) {
	fits(t, these(api.Type{Ints: spans("1..5")}, api.Type{Ints: spans("3..9")}), 1)
	fits(t, these(nothing, nothing), 1)
	fits(t, these(everything(0), everything(0)), 1) // what both lead to is there already
	fits(t, these(everything(1), everything(0)), 1) // the same pair, the other way
	fits(t, these(everything(0), everything(1)), 1) // a pair that leads back to itself
	fits(t, these(everything(2), everything(3), nothing, nothing), 2)
	fits(t, these(everything(2), everything(3), everything(0), nothing), 2)
	fits(t, these(everything(2), everything(3), everything(0), everything(1)), 2)                                       // round
	fits(t, these(ofArrays(arr(3, 0, -1, 2, 3)), ofArrays(arr(3, 0, -1, 4, 5)), nothing, nothing, nothing, nothing), 3) // 2 and 4, 3 and 5
	fits(t, these(ofMaps(maps(2, "a3")), ofMaps(maps(4, "b5")), nothing, nothing, nothing, nothing), 4)                 // 3 and 4, 2 and 5, 2 and 4
	fits(t, these(ofMaps(maps(-1, "a2 b2 c3")), ofMaps(maps(-1, "a3 b3 c2")), nothing, nothing), 2)                     // thrice one pair
	fits(t, these(ofMaps(maps(-1, "a2 b3!")), ofMaps(maps(-1, "a3")), nothing, nothing), 1)                             // a map that is left out leads nowhere
	fits(t, these(ofMaps(maps(-1, "a2 b3!")), ofMaps(maps(-1, "a3"), maps(2, "a3")), nothing, nothing), 2)
	fits(t, these(ofArrays(arr(2, 3, -1)), ofArrays(arr(3, 0, 2)), nothing, nothing), 1) // nor do arrays of which there is none
	fits(t, these(ofArrays(arr(-1, 0, -1, 2, 2)), ofArrays(arr(3, 3, -1)), nothing, nothing), 1)
}

// One met with itself takes itself alone.
func TestAndOfOneAndItselfAtMaxTypes(t *testing.T) {
	for _, l := range [][]api.Type{these(nothing), these(everything(0)), these(everything(1), everything(0)), these(merged(20, 20, 20, 20))} {
		got, k := mixes(t, and, padded(l, 199), 0, 0, api.OK)
		if len(got) != 200 || k != 199 || !same(got[k:], l[:1]) {
			t.Error(show(got))
		}
		mixes(t, and, padded(l, 200), 0, 0, api.ErrLimit)
		mixes(t, and, padded(l, 200), 199, 199, api.ErrLimit)
	}
}

// Two chains of types are met link by link.
func TestAndOfChains(t *testing.T) {
	for _, n := range []int{1, 2, 3, 30, 65, 66} {
		var arrays, objects []api.Type
		for k := range 2 * n {
			next := k + 2
			if next >= 2*n {
				next = -1
			}
			arrays = append(arrays, ofArrays(arr(next, 0, 1+k%2)))
			objects = append(objects, ofMaps(maps(next, "")))
		}
		fits(t, arrays, n)
		fits(t, objects, n)
		meets(t, arrays, 0, 1, []api.Value{list(), nested(n-1, list())}, []api.Value{nested(n, list()), nested(n-1, null), list(list(), list())})
		meets(t, objects, 0, 1, []api.Value{object(""), mapped(n-1, object(""))}, []api.Value{mapped(n, object("")), mapped(n-1, null)})
	}
}

// Two rounds of types are met in as many pairs as it takes till both are at their beginning.
func TestAndOfRoundsOfUnlikeLengths(t *testing.T) {
	for _, c := range []struct{ a, b, takes int }{{1, 1, 1}, {1, 7, 7}, {2, 3, 6}, {6, 4, 12}, {13, 13, 13}, {10, 17, 170}, {12, 14, 84}, {13, 14, 182}, {11, 16, 176}} {
		ring := func(from, n int) []api.Type {
			l := make([]api.Type, n)
			for k := range l {
				l[k] = ofArrays(arr(from+(k+1)%n, 0, 1))
			}
			l[n-1].Null = true
			return l
		}
		l := append(ring(0, c.a), ring(c.a, c.b)...)
		if len(l)+c.takes > 200 {
			mixes(t, and, l, 0, c.a, api.ErrLimit)
			continue
		}
		got, k := mixes(t, and, padded(l, 200-c.takes), 0, c.a, api.OK)
		if len(got) != 200 {
			t.Errorf("%d and %d: %d", c.a, c.b, len(got)-k)
		}
		mixes(t, and, padded(l, 201-c.takes), 0, c.a, api.ErrLimit)
		for n := range 300 {
			lets(t, got, k, []api.Value{nested(n, list())}, nil)
			if want := (n+1)%c.a == 0 && (n+1)%c.b == 0; want {
				lets(t, got, k, []api.Value{nested(n, null)}, nil)
			} else {
				lets(t, got, k, nil, []api.Value{nested(n, null)})
			}
		}
	}
}

// Parts are met each with each, and what they come to is counted, be they alike or not.
func TestAndOfHowManyParts(t *testing.T) {
	for _, made := range parted()[:4] {
		for _, c := range [][2]int{{1, 20}, {2, 10}, {4, 5}, {0, 20}, {1, 1}, {3, 6}, {2, 11}, {3, 7}, {5, 5}, {20, 2}, {20, 20}} {
			want := api.OK
			if c[0]*c[1] > 20 {
				want = api.ErrLimit
			}
			l := these(made(c[0]), made(c[1]))
			mixes(t, and, l, 0, 1, want)
			mixes(t, and, l, 1, 0, want)
			mixes(t, and, append(l, ofArrays(arr(0, 0, -1)), ofArrays(arr(1, 0, -1))), 2, 3, want) // where they lead on to it
			mixes(t, and, append(l, ofMaps(maps(-1, "a2 b0")), ofMaps(maps(-1, "a3 b1"))), 2, 3, want)
		}
	}
}

// Each meets another one, so that there are as many unlike parts as pairs.
func TestAndOfUnlikeParts(t *testing.T) {
	for _, c := range []struct {
		n, m, want int
	}{{4, 5, api.OK}, {5, 4, api.OK}, {2, 10, api.OK}, {3, 7, api.ErrLimit}, {7, 3, api.ErrLimit}, {5, 5, api.ErrLimit}, {1, 20, api.OK}} {
		var a, b [3]api.Type
		for k := range c.n {
			a[0].Texts = append(a[0].Texts, texts(0, -1, "a"+strconv.Itoa(k)+".*"))
			a[1].Arrays = append(a[1].Arrays, arr(2, 0, -1, copies(k, 3)...))
			a[2].Maps = append(a[2].Maps, maps(2, "a"+names(k + 1)[k]+"_2!"))
		}
		for k := range c.m {
			b[0].Texts = append(b[0].Texts, texts(0, -1, ".*b"+strconv.Itoa(k)))
			b[1].Arrays = append(b[1].Arrays, arr(2, k, -1))
			b[2].Maps = append(b[2].Maps, maps(2, "b"+names(k + 1)[k]+"_2!"))
		}
		for k := range a {
			mixes(t, and, these(a[k], b[k], api.Type{Null: true}, everything(3)), 0, 1, c.want)
			mixes(t, and, these(a[k], b[k], api.Type{Null: true}, everything(3)), 1, 0, c.want)
		}
	}
}

// What meets in nothing is not counted.
func TestAndOfPartsThatMeetInNothing(t *testing.T) {
	var a api.Type
	for k := range 20 {
		a.Texts = append(a.Texts, texts(k, k, "a*"))
		a.Bytes = append(a.Bytes, size(10*k, 10*k+3))
		a.Arrays = append(a.Arrays, arr(1, k, k))
		a.Maps = append(a.Maps, api.Map{Rest: -1, Fields: []api.Field{{Name: names(k + 1)[k], Type: 1, Must: true}}})
	}
	l := these(a, api.Type{Null: true}, a)
	got, k := mixes(t, and, l, 0, 2, api.OK)
	if m := got[k]; len(m.Texts) != 20 || len(m.Bytes) != 20 || len(m.Arrays) != 20 || len(m.Maps) != 20 {
		t.Error(show(got[k:]))
	}
	var values []api.Value
	for k := range 25 {
		values = append(values, word(string(copies(k, byte('a')))), raw(string(copies(k, byte('a')))), list(copies(k, null)...), member(names(k + 1)[k], null), member(names(k + 1)[k], one))
	}
	if n := follows(t, and, l, 0, 2, values); n != 20+12+20+20 {
		t.Error(n)
	}
	none := these(api.Type{Bytes: copies(20, size(3, 2)), Arrays: copies(20, arr(0, 1, 0)), Texts: copies(20, texts(9, 8))}, api.Type{Bytes: copies(20, size(0, -1)), Arrays: copies(20, arr(0, 0, -1)), Texts: copies(20, texts(0, -1))})
	if n := follows(t, and, none, 0, 1, values); n != 0 {
		t.Error(n)
	}
}

// Patterns: at most 8 in all, those that both have counted once.
func TestAndOfHowManyPatterns(t *testing.T) {
	res := func(from, to int) api.Type {
		var out []string
		for k := from; k < to; k++ {
			out = append(out, "a*"+strconv.Itoa(k)+"?a*")
		}
		return api.Type{Texts: []api.Texts{texts(0, 5, out...)}}
	}
	for _, c := range []struct{ to, from, end, want int }{
		{4, 4, 8, api.OK}, {5, 5, 8, api.OK}, {8, 8, 8, api.OK}, {8, 0, 8, api.OK}, {5, 4, 8, api.OK}, {1, 1, 8, api.OK},
		{5, 5, 9, api.ErrLimit}, {4, 4, 9, api.ErrLimit}, {8, 1, 9, api.ErrLimit}, {8, 8, 9, api.ErrLimit}, {8, 8, 16, api.ErrLimit}, {5, 4, 9, api.ErrLimit},
	} {
		l := these(res(0, c.to), res(c.from, c.end))
		mixes(t, and, l, 0, 1, c.want)
		mixes(t, and, l, 1, 0, c.want)
		if c.want == api.OK {
			follows(t, and, l, 0, 1, poolValues())
		}
		l[1].Texts = slices.Concat(res(0, 1).Texts, l[1].Texts) // one that can't be said is enough
		mixes(t, and, l, 0, 1, c.want)
		l[1].Texts = slices.Concat(l[1].Texts, res(0, 1).Texts)
		mixes(t, and, l, 0, 1, c.want)
		l[1].Texts[1].Size = size(6, -1) // where Sizes meet in nothing there is nothing to be said
		mixes(t, and, l, 0, 1, api.OK)
	}
}

// Fields: at most 50, those that both name counted once, and those that can't be there not at all.
func TestAndOfHowManyFields(t *testing.T) {
	record := func(rest, from, to int) api.Type {
		m := api.Map{Rest: rest}
		for _, name := range names(to)[from:] {
			m.Fields = append(m.Fields, api.Field{Name: name, Type: 2})
		}
		return ofMaps(m)
	}
	for _, c := range []struct {
		a, b api.Type
		want int
	}{
		{record(2, 0, 25), record(2, 25, 50), api.OK},
		{record(2, 0, 25), record(2, 25, 51), api.ErrLimit},
		{record(2, 0, 50), record(2, 50, 100), api.ErrLimit},
		{record(2, 0, 50), record(2, 0, 50), api.OK},
		{record(2, 0, 50), record(2, 1, 51), api.ErrLimit},
		{record(2, 0, 50), record(2, 1, 50), api.OK},
		{record(-1, 0, 50), record(2, 50, 100), api.OK},
		{record(2, 0, 50), record(-1, 50, 100), api.OK},
		{record(-1, 0, 50), record(-1, 50, 100), api.OK},
		{record(-1, 0, 50), record(-1, 10, 60), api.OK},
	} {
		l := these(c.a, c.b, api.Type{Null: true})
		mixes(t, and, l, 0, 1, c.want)
		mixes(t, and, l, 1, 0, c.want)
		if c.want == api.OK {
			follows(t, and, l, 0, 1, []api.Value{object(""), wide(1, null), wide(50, null), wide(51, null), wide(100, null), member(names(20)[19], null), member(names(60)[59], null), member(names(20)[19], one)})
		}
	}
	wideTypes := these(record(2, 0, 26), record(2, 26, 52), nothing, ofArrays(arr(0, 0, -1)), ofArrays(arr(1, 0, -1)))
	mixes(t, and, wideTypes, 3, 4, api.ErrLimit)
}

// Spans: at most 1,000 of Ints, and of Exact, in what is answered; there may be more on the way to it.
func TestAndOfManySpans(t *testing.T) {
	gaps := func(from, step, n int) []api.Span { // what lies between the teeth of a comb
		var out []api.Span
		for k := range n {
			out = append(out, api.Span{HasLo: true, Lo: number(strconv.Itoa(from + k*step)).Int, HasHi: true, Hi: number(strconv.Itoa(from + k*step + step - 2)).Int})
		}
		return out
	}
	evens, odds := comb(0, 4, 1000), comb(2, 4, 1000)
	for _, c := range []struct {
		a, b api.Type
		want int
	}{
		{api.Type{Ints: evens}, api.Type{Ints: evens}, api.OK},
		{api.Type{Ints: evens}, api.Type{Ints: spans("..")}, api.OK},
		{api.Type{Ints: gaps(0, 6, 1000)}, api.Type{Ints: gaps(3, 6, 1000)}, api.ErrLimit},
		{api.Type{Ints: gaps(0, 6, 1000)}, api.Type{Exact: gaps(3, 6, 1000)}, api.ErrLimit},
		{api.Type{Exact: gaps(0, 6, 1000)}, api.Type{Exact: gaps(3, 6, 1000)}, api.ErrLimit},
		{api.Type{Ints: gaps(0, 6, 500)}, api.Type{Ints: gaps(3, 6, 500)}, api.OK},
		{api.Type{Ints: gaps(0, 6, 500)}, api.Type{Exact: gaps(3, 6, 501)}, api.OK},
		{api.Type{Ints: gaps(0, 6, 501)}, api.Type{Ints: gaps(3, 6, 500)}, api.OK},
		{api.Type{Ints: gaps(0, 6, 501)}, api.Type{Exact: gaps(3, 6, 501)}, api.ErrLimit},
		{api.Type{Ints: evens, Exact: odds}, api.Type{Ints: spans("0..2000")}, api.OK},
		{api.Type{Ints: evens, Exact: odds}, api.Type{Exact: spans("0..1998")}, api.OK},
		{api.Type{Ints: evens, Exact: odds}, api.Type{Exact: spans("..")}, api.ErrLimit},
		{api.Type{Ints: evens, Exact: odds}, api.Type{Ints: odds, Exact: spans("..-1")}, api.OK},
		{api.Type{Ints: evens, Exact: odds}, api.Type{Ints: odds, Exact: spans("..0")}, api.ErrLimit},
		{api.Type{Ints: spans(".."), Exact: evens}, api.Type{Ints: spans(".."), Exact: odds}, api.OK}, // what Ints let be needs no Exact
		{api.Type{Ints: spans("..4000"), Exact: evens}, api.Type{Ints: spans("0.."), Exact: odds}, api.OK},
		{api.Type{Ints: evens, Exact: odds}, api.Type{Ints: odds, Exact: comb(1, 4, 1000)}, api.OK},
		{api.Type{Ints: evens, Exact: odds}, api.Type{Ints: odds, Exact: evens}, api.ErrLimit},
		{api.Type{Ints: comb(0, 4, 500), Exact: comb(2, 4, 500)}, api.Type{Ints: comb(2, 4, 500), Exact: comb(0, 4, 500)}, api.OK},
		{api.Type{Ints: comb(0, 4, 501), Exact: comb(2, 4, 500)}, api.Type{Ints: comb(2, 4, 500), Exact: comb(0, 4, 501)}, api.ErrLimit},
		{api.Type{Ints: comb(0, 4, 1000), Exact: comb(4000, 4, 1000)}, api.Type{Ints: comb(2, 4, 1000), Exact: comb(4002, 4, 1000)}, api.OK},
	} {
		l := these(c.a, c.b)
		if c.want != api.OK {
			mixes(t, and, l, 0, 1, c.want)
			mixes(t, and, l, 1, 0, c.want)
			continue
		}
		follows(t, and, l, 0, 1, around(-3, 8010))
	}
}

// deadline ends a test that would go on for ages.
func deadline(t *testing.T, asked func()) {
	t.Helper()
	done := make(chan bool)
	go func() { asked(); close(done) }()
	select {
	case <-done:
	case <-time.After(time.Minute):
		t.Fatal("no end")
	}
}

// As great as types may be: each call ends soon.
func TestOfGreatTypes(t *testing.T) {
	full := make([]api.Type, 200)
	for i := range full {
		for k := range 20 {
			a := arr((i*7+k*13)%200, k, -1)
			for n := range 8 {
				a.Prefix = append(a.Prefix, (i*3+k*5+n*11)%200)
			}
			m := api.Map{Rest: (i*11 + k*17) % 200}
			for n, name := range names(50 + k)[k:] {
				m.Fields = append(m.Fields, api.Field{Name: name, Type: (i + k*19 + n*23) % 200})
			}
			full[i].Arrays, full[i].Maps = append(full[i].Arrays, a), append(full[i].Maps, m)
			full[i].Bytes = append(full[i].Bytes, size(k, -1))
			full[i].Texts = append(full[i].Texts, texts(k, -1, "a*", "b*", "c*", "d*", "e*", "f*", "g*", "h*"))
		}
	}
	deadline(t, func() {
		mixes(t, and, full, 0, 1, api.ErrLimit)
		mixes(t, or, full, 0, 1, api.ErrLimit)
		mixes(t, and, full[:0], 0, 0, api.ErrArg)
		for i := range full {
			full[i].Arrays, full[i].Maps, full[i].Texts, full[i].Bytes = full[i].Arrays[:4], full[i].Maps[:4], full[i].Texts[:4], full[i].Bytes[:4]
		}
		mixes(t, and, full, 5, 100, api.ErrLimit)
		if got, _ := mix.Clean(full, 9); len(got) != 200 {
			t.Error(len(got))
		}
		few := clones(full[:12])
		for i := range few {
			for k := range few[i].Arrays {
				a := &few[i].Arrays[k]
				a.Rest %= 12
				for n := range a.Prefix {
					a.Prefix[n] %= 12
				}
			}
			for k := range few[i].Maps {
				m := &few[i].Maps[k]
				m.Rest %= 12
				m.Fields = m.Fields[3-k : 50-k]
				for n := range m.Fields {
					m.Fields[n].Type %= 12
				}
			}
		}
		follows(t, and, few, 3, 7, append(poolValues(), nested(30, list()), mapped(30, object("")))) // all pairs of 12
	})
}
