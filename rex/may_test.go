package rex_test

import (
	"math"
	"testing"

	"entrepot/api"
	"entrepot/rex"
)

// Promise 10.2: May and Size, and that Match and Print ask May.

// rights is patterns that may be.
func rights() []api.Re {
	return []api.Re{
		a, dot(), set(), set(0, 0), set(top, top), set(0, 0xD7FF), set(0xE000, top), set(0xD7FF, 0xD7FF, 0xE000, 0xE000), set(1, 2, 4, 5), set(0, 0, 2, 2, 4, 4), set(126, 126, 128, 128), set(0, 127), set(128, 0xD7FF), set('a', 'z', 0xE9, 0xE9, 0x1D11E, top),
		seq(), seq(a, b), seq(seq(), seq()), seq(seq(a, b), c), seq(copies(199, a)...), alt(a, b), alt(seq(), seq()), alt(a, a), alt(alt(a, b), alt(b, c)), alt(copies(199, set())...),
		rep(0, 0, a), rep(0, 1, a), rep(0, -1, a), rep(0, 20, a), rep(1, 1, a), rep(1, -1, a), rep(19, 20, a), rep(20, 20, a), rep(20, -1, a), rep(0, 0, seq()), rep(3, 3, rep(2, -1, alt(a, seq()))),
		rex.Any(), rex.Quote(""), rex.Quote("a"), rex.Quote("aé€𝄞"),
	}
}

// badSets is sets that are none.
func badSets() []api.Re {
	return []api.Re{
		set(-1, -1), set(-1, 5), set(math.MinInt, 5), set(math.MinInt, math.MaxInt), set(-5, -3), set(0, top+1), set(top+1, top+1), set('a', math.MaxInt), set(math.MaxInt, math.MaxInt), set(math.MaxInt, math.MinInt), set('a', 'b', math.MinInt, math.MinInt),
		set(5, 3), set(1, 0), set(top, 0), set('b', 'a'), set('a', 'c', 'f', 'e'), // they fall
		set(0xD800, 0xD800), set(0xDFFF, 0xDFFF), set(0xDABC, 0xDABC), set(0xD800, 0xDFFF), set(0xD7FF, 0xD800), set(0xDFFF, 0xE000), set(0xD7FF, 0xE000), set(0, top), set('a', 0xD900), set(0xD900, top), set('a', 'b', 0xD000, 0xE100),
		set('a', 'b', 'c', 'd'), set(1, 1, 2, 2), set(0, 126, 127, 127), set(0, 127, 128, 128), set('a', 'c', 'b', 'd'), set('a', 'c', 'c', 'd'), set('a', 'z', 'c', 'd'), set('a', 'c', 'a', 'c'), set('a', 'a', 'a', 'a'), // nothing is between
		set('d', 'e', 'a', 'b'), set('x', 'z', 'a', 'a', 'c', 'c'), set('a', 'b', 'x', 'y', 'f', 'g'), // they do not rise
	}
}

// badNumbers is what a repeat's numbers may not be.
var badNumbers = [][2]int{
	{-1, -1}, {-1, 0}, {-1, 5}, {-2, -1}, {-20, 20}, {math.MinInt, -1}, {math.MinInt, 0}, {math.MinInt, math.MinInt}, {math.MinInt, math.MaxInt}, {21, 21}, {21, -1}, {21, 20}, {100, -1}, {1000, 1000}, {math.MaxInt, -1}, {math.MaxInt, math.MaxInt}, {math.MaxInt, 0}, {math.MaxInt - 1, -1},
	{0, 21}, {20, 21}, {0, 1000}, {0, math.MaxInt}, {5, math.MaxInt}, {0, -2}, {0, -20}, {0, math.MinInt}, {0, math.MinInt + 1}, {20, -2}, {1, 0}, {3, 2}, {20, 0}, {20, 19}, {0, 1 << 32}, {1 << 32, 1<<32 + 1}, {0, 1<<32 + 5}, {0, 1<<32 - 1},
}

// strays is patterns that may be, with one part that their kind does not name.
func strays() []api.Re {
	var out []api.Re
	for _, r := range rights() {
		if r.Kind != api.ReRep {
			for _, n := range []int{-1, 1, 20, math.MinInt, math.MaxInt} {
				least, most := r, r
				least.Min, most.Max = n, n
				out = append(out, least, most)
			}
		}
		if r.Kind != api.ReSet {
			for _, x := range []api.Re{a, dot(), set(5, 3), set(0, 0)} {
				more := r
				more.Set = x.Set
				out = append(out, more)
			}
		} else {
			for _, l := range [][]api.Re{{a}, {seq()}, {a, b}, {{}}, {r, r}} {
				more := r
				more.L = l
				out = append(out, more)
			}
		}
	}
	return out
}

// bads is patterns that may not be.
func bads() []api.Re {
	out := append(badSets(), strays()...)
	for _, kind := range []int{0, 5, 6, -1, -3, 100, math.MinInt, math.MaxInt, 1<<32 + 1} {
		out = append(out, api.Re{Kind: kind}, api.Re{Kind: kind, Set: a.Set}, api.Re{Kind: kind, L: []api.Re{a}}, api.Re{Kind: kind, L: []api.Re{a, b}}, api.Re{Kind: kind, L: []api.Re{a}, Min: 1, Max: 2}, api.Re{Kind: kind, Max: -1})
	}
	for _, n := range badNumbers {
		out = append(out, rep(n[0], n[1], a), rep(n[0], n[1], seq()), rep(n[0], n[1], rep(n[0], n[1], a)))
	}
	out = append(out, seq(a), seq(seq()), seq(dot()), alt(), alt(a), alt(seq()), api.Re{Kind: api.ReRep}, api.Re{Kind: api.ReRep, Max: -1}, api.Re{Kind: api.ReRep, Min: 2, Max: 3}) // so many they may not be
	out = append(out, api.Re{Kind: api.ReRep, L: []api.Re{a, b}, Max: 1}, api.Re{Kind: api.ReRep, L: copies(200, a), Max: -1})
	return out
}

func TestMay(t *testing.T) {
	for _, r := range rights() {
		if !rex.May(r) {
			t.Errorf("May(%s) is false", show(r))
		}
	}
	for _, r := range bads() {
		mayNot(t, r)
	}
}

// A part that may not be lets no whole be.
func TestMayOfParts(t *testing.T) {
	wraps := []func(api.Re) api.Re{
		func(r api.Re) api.Re { return seq(r, a) }, func(r api.Re) api.Re { return seq(a, b, r) }, func(r api.Re) api.Re { return alt(a, r) }, func(r api.Re) api.Re { return alt(r, seq()) }, func(r api.Re) api.Re { return rep(0, -1, r) }, func(r api.Re) api.Re { return rep(0, 0, r) }, func(r api.Re) api.Re { return rep(1, 1, r) }, func(r api.Re) api.Re { return alt(a, seq(b, rep(0, 1, alt(r, c)))) },
	}
	for _, wrap := range wraps {
		for _, r := range rights() {
			if want := rex.Size(wrap(r)) <= 200; rex.May(wrap(r)) != want {
				t.Errorf("May(%s) is not %v", show(wrap(r)), want)
			}
		}
		for _, r := range bads() {
			mayNot(t, wrap(r))
		}
	}
}

// A nil list and an empty one are the same.
func TestMayOfEmptyLists(t *testing.T) {
	empty := func(r api.Re) api.Re {
		if r.Set == nil {
			r.Set = []api.Range{}
		}
		if r.L == nil {
			r.L = []api.Re{}
		}
		return r
	}
	for _, r := range rights() {
		if !rex.May(empty(r)) {
			t.Errorf("May(%s) is false", show(r))
		}
		sized(t, empty(r), rex.Size(r))
	}
	for _, r := range []api.Re{{}, alt(), seq(a), {Kind: api.ReRep}, {Kind: 5}} {
		mayNot(t, empty(r))
	}
	matches(t, empty(seq()), "", true)
	matches(t, rep(0, -1, empty(a)), "aa", true)
	comesBack(t, empty(set()))
}

func TestMayOfDepth(t *testing.T) {
	for _, inner := range []api.Re{a, seq(), set(), dot()} {
		for n := range 20 {
			r := nested(n, inner)
			if n > 15 {
				mayNot(t, r)
			} else if !rex.May(r) {
				t.Errorf("%d deep may not be", n+1)
			}
		}
	}
	for n := range 20 {
		wide, one := seq(), a
		for range n {
			wide, one = alt(b, wide), seq(one, b)
		}
		for _, r := range []api.Re{wide, one} {
			if n > 15 {
				mayNot(t, r)
			} else if !rex.May(r) {
				t.Errorf("%d deep may not be", n+1)
			}
		}
	}
	mayNot(t, alt(a, nested(15, a)))
	mayNot(t, seq(nested(15, a), a))
	if !rex.May(alt(a, nested(14, a), b)) {
		t.Error("16 deep may not be")
	}
}

func TestMayOfSize(t *testing.T) {
	for _, r := range []api.Re{seq(copies(199, a)...), alt(copies(199, seq())...), rep(19, 20, seq(copies(8, a)...)), seq(rep(0, 20, seq(copies(7, a)...)), rep(17, -1, b), seq(), seq(copies(16, a)...)), rep(1, 1, seq(copies(198, a)...)), rep(0, 0, alt(copies(198, a)...)), rep(0, -1, seq(copies(198, a)...))} {
		if n := rex.Size(r); n > 200 || !rex.May(r) {
			t.Errorf("May(%s) of Size %d is false", show(r), n)
		}
	}
	for _, r := range []api.Re{seq(copies(200, a)...), alt(copies(200, seq())...), rep(20, 20, seq(copies(9, a)...)), rep(0, 20, seq(copies(9, a)...)), rep(1, 1, seq(copies(199, a)...)), rep(0, 0, alt(copies(199, a)...)), rep(0, -1, seq(copies(199, a)...)), rep(0, 0, rep(20, 20, rep(20, 20, a))), seq(copies(1000, a)...), alt(copies(100_000, a)...)} {
		if n := rex.Size(r); n <= 200 {
			t.Errorf("Size(%s) = %d", show(r), n)
		}
		mayNot(t, r)
	}
}

func TestSize(t *testing.T) {
	for _, x := range []struct {
		r    api.Re
		want int
	}{
		{a, 1}, {dot(), 1}, {set(), 1}, {set('a', 'b', 'x', 'y'), 1}, {seq(), 1}, {seq(a, b), 3}, {seq(a, b, c), 4}, {seq(seq(), seq()), 3}, {seq(seq(a, b), c), 5}, {alt(a, b), 3}, {alt(seq(), seq()), 3}, {alt(a, seq(b, c)), 5}, {rex.Any(), 2}, {rex.Quote(""), 1}, {rex.Quote("a"), 1}, {rex.Quote("é€"), 3},
		{rep(0, 0, a), 2}, {rep(0, 1, a), 2}, {rep(0, -1, a), 2}, {rep(1, -1, a), 3}, {rep(1, 1, a), 2}, {rep(0, 2, a), 3}, {rep(2, 2, a), 3}, {rep(2, -1, a), 4}, {rep(0, 20, a), 21}, {rep(20, 20, a), 21}, {rep(20, -1, a), 22}, {rep(0, 0, seq(a, b)), 4}, {rep(0, 0, rep(20, 20, a)), 22},
		{rep(2, 3, seq(a, b)), 10}, {rep(2, -1, seq(a, b)), 10}, {rep(3, 3, rep(2, 2, a)), 10}, {rep(20, 20, rep(20, 20, a)), 421}, {rep(20, -1, rep(20, 20, a)), 442}, {rep(9, 9, rep(11, 11, rep(9, 9, a))), 1000}, {rep(2, 2, rep(2, 2, rep(20, 20, seq(copies(11, a)...)))), 967}, {rep(20, 20, rep(20, 20, rep(20, 20, a))), 1000}, {nested(50, a), 51}, {seq(nested(3, a), alt(b, rep(2, 2, c)), seq()), 11},
		{seq(copies(199, a)...), 200}, {seq(copies(200, a)...), 201}, {seq(copies(998, a)...), 999}, {seq(copies(999, a)...), 1000}, {seq(copies(1000, a)...), 1000}, {alt(copies(5000, a)...), 1000}, {rep(0, 1, seq(copies(998, a)...)), 1000}, {rep(0, 1, seq(copies(997, a)...)), 999}, {seq(rep(20, 20, rep(20, 20, a)), rep(20, 20, rep(20, 20, a))), 843}, {alt(copies(3, rep(20, 20, rep(20, 20, a)))...), 1000},
		{rep(0, 998, a), 999}, {rep(0, 999, a), 1000}, {rep(0, 1000, a), 1000}, {rep(0, math.MaxInt, a), 1000}, {rep(0, math.MaxInt, rep(0, math.MaxInt, seq(a, b))), 1000}, {rep(0, 1<<62, seq(a, b, c, a)), 1000}, {rep(997, -1, a), 999}, {rep(math.MaxInt, -1, a), 1000}, {rep(math.MaxInt-1, -1, seq(a, b)), 1000}, {rep(math.MaxInt, math.MaxInt, a), 1000}, // numbers that may not be
		{rep(math.MinInt, -1, a), 2}, {rep(-5, -1, a), 2}, {rep(-1, -1, a), 2}, {rep(5, -2, a), 2}, {rep(0, math.MinInt, a), 2}, {rep(5, 0, a), 2}, {rep(20, 19, a), 20}, {seq(a), 2}, {alt(), 1}, {alt(a), 2}, {set(5, 3), 1}, {set(-1, top+1), 1},
		{nested(997, a), 998}, {nested(998, a), 999}, {nested(999, a), 1000}, {nested(1000, a), 1000}, {nested(1<<16-1, a), 1000}, {nested(1<<16-1, rep(20, 20, rep(20, 20, a))), 1000},
	} {
		sized(t, x.r, x.want)
		if x.want < 1000 {
			sized(t, seq(x.r, a), min(x.want+2, 1000))
			sized(t, rep(3, 5, x.r), min(5*x.want+1, 1000))
		}
	}
}

// Sizes of patterns that may not be, and of ones that lead to themselves, end too.
func TestEndsOfWhatMayNotBe(t *testing.T) {
	deep := api.Re{}
	for range 1<<16 - 1 {
		deep = rep(0, -1, deep)
	}
	mayNot(t, deep)
	mayNot(t, seq(copies(1<<20, api.Re{})...))
	mayNot(t, alt(copies(1<<20, api.Re{Kind: 7, L: copies(3, a)})...))
	for _, r := range []api.Re{{Kind: api.ReRep, Max: -1}, {Kind: api.ReRep, Max: 20}, {Kind: api.ReSeq}, {Kind: api.ReAlt}, {Kind: api.ReSet}} {
		for n := 1; n < 4; n++ {
			round := copies(n, r)
			for i := range round {
				round[i].L = round
			}
			mayNot(t, round[0])
		}
	}
	wide := set()
	for i := range 0x8000 {
		wide.Set = append(wide.Set, api.Range{Lo: 2 * i, Hi: 2 * i})
	}
	mayNot(t, wide)
	wide.Set = wide.Set[:0x6C00]
	if !rex.May(wide) || !rex.Match(wide, "b") || rex.Match(wide, "a") || !rex.Match(wide, "\uD7FE") || rex.Match(wide, "\uD7FF") {
		t.Error("a set of many ranges")
	}
	refuses(t, wide, api.ErrLimit)
}

// What is handed in is not changed.
func TestArgumentsAreKept(t *testing.T) {
	list := append(rights(), bads()...)
	for _, s := range []string{`a{2}|[^a-c\d]+x?`, "((a|b)*c){2,3}|()", `(\d{4}|.)+`, "[^\x00-\U0010FFFF]"} {
		list = append(list, parsed(t, s))
	}
	for _, r := range list {
		before := clone(r)
		rex.May(r)
		rex.Size(r)
		rex.Match(r, "")
		rex.Match(r, "aab\U0001D11E")
		rex.Match(r, "\xFF")
		rex.Print(r)
		if !same(r, before) {
			t.Errorf("%s was %s", show(r), show(before))
		}
	}
}
