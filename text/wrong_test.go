package text_test

import (
	"math"
	"slices"
	"testing"

	"entrepot/api"
)

// Promise 12.2: sets that may not be.

// wrongs is sets that may not be, by their Size, by how many Res they have, and by what stands in each place of Res.
func wrongs() []api.Texts {
	out := sets(sized(-1, -1), sized(-1, 5), sized(math.MinInt, 0), sized(0, -2), sized(5, -2), sized(0, math.MinInt), sized(4097, -1), sized(4097, 4096), sized(0, 4097), sized(math.MaxInt, math.MaxInt), set(0, math.MaxInt, "a"), set(-1, -2, "a"), of(unlike(9)...), of(copies(9, "a")...), of(unlike(20)...))
	for _, s := range bads {
		out = append(out, of(s), of(s, "a", "b"), of("a", s, "b"), of("a", "b", s), set(3, 2, s))
	}
	return out
}

// One that may not be is refused wherever it stands.
func TestSetsThatMayNotBe(t *testing.T) {
	a, never := of("a"), sized(3, 2)
	for _, x := range wrongs() {
		may(t, x, false)
		for _, l := range [][]api.Texts{{x}, {x, a, a}, {a, x, a}, {a, a, x}, {never, x}, {x, never}, {x, x}} {
			tells(t, l, nil, plenty, wrong)
			tells(t, nil, l, plenty, wrong)
			tells(t, l, sets(a), plenty, wrong)
			tells(t, sets(a), l, plenty, wrong)
			tells(t, sets(never), l, plenty, wrong)
			tells(t, l, sets(of()), plenty, wrong)
		}
		tells(t, append(copies(7, a), x), copies(8, a), plenty, wrong)
		tells(t, copies(8, a), append(copies(7, a), x), plenty, wrong)
		tells(t, append(copies(8, a), x), nil, plenty, wrong)
	}
}

// What may not be asked is told ahead of too little fuel.
func TestWrongAheadOfFuel(t *testing.T) {
	a := of("a")
	for _, fuel := range []int{1, 0, -1, math.MinInt, math.MaxInt} {
		for _, x := range sets(sized(-1, 0), sized(0, 4097), of("("), of("a{21}"), of("\xFF"), of(unlike(9)...)) {
			tells(t, sets(x), nil, fuel, wrong)
			tells(t, nil, sets(x), fuel, wrong)
			tells(t, sets(a), sets(a, x), fuel, wrong)
			tells(t, sets(a, x), sets(a), fuel, wrong)
			tells(t, sets(sized(3, 2), x), nil, fuel, wrong)
		}
		for n := range 9 {
			tells(t, copies(9, a), copies(n, a), fuel, wrong)
			tells(t, copies(n, a), copies(9, a), fuel, wrong)
		}
		tells(t, copies(1000, of("(")), copies(1000, a), fuel, wrong)
		tells(t, slices.Concat(copies(8, a), sets(of("("))), nil, fuel, wrong)
	}
}
