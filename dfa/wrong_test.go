package dfa_test

import (
	"math"
	"testing"

	"entrepot/api"
	"entrepot/rex"
)

// Promise 11.1: patterns that may not be.

// bads is patterns that may not be, by their kinds, sets, numbers, lists, depth, Size.
func bads() []api.Re {
	a, b := one('a'), one('b')
	out := []api.Re{
		set(-1, 5), set(math.MinInt, 5), set(0, top+1), set(top+1, top+1), set('a', math.MaxInt), set(math.MaxInt, math.MinInt), set(5, 3), set('a', 'c', 'f', 'e'), set(0, top), set(0xD800, 0xDFFF), set(0xDABC, 0xDABC), set(0xD7FF, 0xD800), set(0xDFFF, 0xE000), set('a', 'b', 'c', 'd'), set('a', 'z', 'c', 'd'), set('d', 'e', 'a', 'b'), set('a', 'a', 'a', 'a'),
		seq(a), alt(), alt(a), seq(seq()), {Kind: api.ReRep}, {Kind: api.ReRep, L: []api.Re{a, b}, Max: 1},
		rep(-1, -1, a), rep(-1, 5, a), rep(math.MinInt, 0, a), rep(21, 21, a), rep(21, -1, a), rep(math.MaxInt, -1, a), rep(0, 21, a), rep(0, math.MaxInt, a), rep(0, -2, a), rep(0, math.MinInt, a), rep(3, 2, a), rep(1, 0, a), rep(20, 19, seq()),
		{Kind: api.ReSet, Set: a.Set, Min: 1}, {Kind: api.ReSet, Set: a.Set, Max: -1}, {Kind: api.ReSet, Set: a.Set, L: []api.Re{b}}, {Kind: api.ReSeq, Set: a.Set}, {Kind: api.ReSeq, L: []api.Re{a, b}, Max: 1}, {Kind: api.ReAlt, L: []api.Re{a, b}, Set: a.Set}, {Kind: api.ReAlt, L: []api.Re{a, b}, Min: -1}, {Kind: api.ReRep, L: []api.Re{a}, Set: a.Set, Max: 1},
		seq(copies(200, a)...), alt(copies(200, a)...), rep(20, 20, rep(10, 10, a)),
	}
	for _, kind := range []int{0, 5, -1, 100, math.MinInt, math.MaxInt, 1<<32 + 1} {
		out = append(out, api.Re{Kind: kind}, api.Re{Kind: kind, Set: a.Set}, api.Re{Kind: kind, L: []api.Re{a, b}}, api.Re{Kind: kind, L: []api.Re{a}, Max: 1})
	}
	deep := a
	for range 16 {
		deep = rep(0, 1, deep)
	}
	out = append(out, deep)
	n := len(out)
	for _, r := range out[:n] {
		out = append(out, seq(a, r), alt(r, b), rep(0, -1, r), seq(a, alt(b, seq(r, a))))
	}
	return out
}

// One that may not be is refused wherever it stands.
func TestPatternsThatMayNotBe(t *testing.T) {
	a, none := one('a'), set()
	for _, r := range bads() {
		if rex.May(r) {
			t.Fatalf("%s may be", shown(r, 5))
		}
		for _, l := range [][]api.Re{{r}, {r, a}, {a, r}, {r, a, a}, {a, r, a}, {a, a, r}, {none, r}, {r, none}, {r, r}} {
			tells(t, l, nil, free, plenty, wrong)
			tells(t, nil, l, free, plenty, wrong)
			tells(t, l, []api.Re{a}, just(1), plenty, wrong)
			tells(t, []api.Re{a}, l, just(1), plenty, wrong)
			tells(t, []api.Re{none}, l, free, plenty, wrong)
		}
		tells(t, append(copies(19, a), r), nil, free, plenty, wrong)
		tells(t, copies(10, a), append(copies(9, a), r), free, plenty, wrong)
	}
}

// What may not be asked is told ahead of too little fuel.
func TestWrongAheadOfFuel(t *testing.T) {
	a := one('a')
	for _, fuel := range []int{1, 0, -1, math.MinInt, math.MaxInt} {
		for _, r := range []api.Re{{}, set(5, 3), seq(a), rep(3, 2, a), {Kind: -1}} {
			tells(t, []api.Re{r}, nil, free, fuel, wrong)
			tells(t, []api.Re{a}, []api.Re{a, r}, free, fuel, wrong)
			tells(t, []api.Re{r}, copies(20, a), sized(3, 2), fuel, wrong)
		}
		for n := range 22 {
			tells(t, copies(n, a), copies(21-n, a), free, fuel, wrong)
		}
		tells(t, copies(21, api.Re{}), nil, free, fuel, wrong)
		tells(t, copies(1000, a), copies(1000, a), free, fuel, wrong)
		tells(t, nil, nil, just(4097), fuel, wrong)
	}
}
