package whole_test

import (
	"math/big"
	"testing"

	"entrepot/api"
	"entrepot/whole"
)

// Promise 2.2: Exact, ExactUp, ExactDown, RoughUp, RoughDown.

func TestExact(t *testing.T) {
	exact := []api.Int{
		zero, one, plus(10), plus(1<<53 - 1), plus(1 << 53), plus(1<<53 + 2), plus(1<<54 - 2), plus(1 << 54), plus(1<<54 + 4),
		plus(high53), plus(0, 1), plus(0, 0, 0, 1<<63), plus(0, 0, 0, 1<<63+1<<11), topExact,
	}
	rough := []api.Int{
		plus(1<<53 + 1), plus(1<<53 + 3), plus(1<<54 - 1), plus(1<<54 + 1), plus(1<<54 + 2), plus(1<<54 + 3),
		plus(1<<63 - 1), plus(full), plus(high54), plus(1, 1), plus(1, 0, 0, 1), plus(0, 0, 0, 1<<63+1<<10), top,
	}
	for _, a := range exact {
		if !whole.Exact(a) || !whole.Exact(negated(a)) {
			t.Errorf("%v or its negative is not exact", a)
		}
	}
	for _, a := range rough {
		if whole.Exact(a) || whole.Exact(negated(a)) {
			t.Errorf("%v or its negative is exact", a)
		}
	}
}

type pair struct {
	a, want api.Int
	ok      bool
}

// mirrored holds up against the cases, and down against their negatives.
func mirrored(t *testing.T, name string, up, down func(api.Int) (api.Int, bool), cases []pair) {
	t.Helper()
	for _, c := range cases {
		if got, ok := up(c.a); got != c.want || ok != c.ok {
			t.Errorf("%sUp(%v) = %v, %v", name, c.a, got, ok)
		}
		if got, ok := down(negated(c.a)); got != negated(c.want) || ok != c.ok {
			t.Errorf("%sDown(%v) = %v, %v", name, negated(c.a), got, ok)
		}
	}
}

func TestExactUpAndDown(t *testing.T) {
	mirrored(t, "Exact", whole.ExactUp, whole.ExactDown, []pair{
		{zero, zero, true},
		{one, one, true},
		{minusOne, minusOne, true},
		{plus(1 << 53), plus(1 << 53), true},
		{plus(1<<53 + 1), plus(1<<53 + 2), true},
		{minus(1<<53 + 1), minus(1 << 53), true},
		{minus(1<<53 + 3), minus(1<<53 + 2), true},
		{plus(1<<54 - 1), plus(1 << 54), true},
		{minus(1<<54 - 1), minus(1<<54 - 2), true},
		{plus(1<<54 + 1), plus(1<<54 + 4), true},
		{minus(1<<54 + 3), minus(1 << 54), true},
		{plus(full), plus(0, 1), true},
		{minus(full), minus(high53), true},
		{plus(1, 0, 0, 1), plus(0, 0, 1<<12, 1), true},
		{minus(1, 0, 0, 1), minus(0, 0, 0, 1), true},
		{topExact, topExact, true},
		{negated(topExact), negated(topExact), true},
		{pow(255, -1), pow(255, 0), true},
		{bottom, negated(topExact), true},
		// between the greatest exact one and 2^256 there is none
		{top, zero, false},
		{plus(1, 0, 0, high53), zero, false},
		{plus(full, full, full, high53-1), topExact, true},
	})
}

func TestRoughUpAndDown(t *testing.T) {
	mirrored(t, "Rough", whole.RoughUp, whole.RoughDown, []pair{
		{zero, plus(1<<53 + 1), true},
		{one, plus(1<<53 + 1), true},
		{minusOne, plus(1<<53 + 1), true},
		{plus(1<<53 - 1), plus(1<<53 + 1), true},
		{minus(1<<53 - 1), plus(1<<53 + 1), true},
		{plus(1 << 53), plus(1<<53 + 1), true},
		{minus(1 << 53), plus(1<<53 + 1), true},
		{plus(1<<53 + 1), plus(1<<53 + 1), true},
		{minus(1<<53 + 1), minus(1<<53 + 1), true},
		{plus(1<<53 + 2), plus(1<<53 + 3), true},
		{minus(1<<53 + 2), minus(1<<53 + 1), true},
		{plus(1 << 54), plus(1<<54 + 1), true},
		{minus(1 << 54), minus(1<<54 - 1), true},
		{plus(1<<54 + 1), plus(1<<54 + 1), true},
		{plus(full), plus(full), true},
		{plus(0, 1), plus(1, 1), true},
		{minus(0, 1), minus(full), true},
		{minus(0, 0, 0, 1), minus(full, full, full), true},
		{topExact, plus(1, 0, 0, high53), true},
		{negated(topExact), minus(full, full, full, high53-1), true},
		{top, top, true},
		{bottom, bottom, true},
	})
}

// isFloat is whether a float of 64 bits is just that number.
func isFloat(x *big.Int) bool {
	_, accuracy := new(big.Float).SetInt(x).Float64()
	return accuracy == big.Exact
}

// rounded is the number of 53 bits' digits that is nearest to x on that side.
func rounded(x *big.Int, side big.RoundingMode) *big.Int {
	y, _ := new(big.Float).SetPrec(53).SetMode(side).SetInt(x).Int(nil)
	return y
}

// nearestRough goes from x by step until it is at what no float is, with a leap over the numbers that all are floats.
func nearestRough(x *big.Int, step int64) *big.Int {
	y := new(big.Int).Set(x)
	for isFloat(y) {
		if y.BitLen() <= 53 {
			y.SetInt64(step << 53)
		}
		y.Add(y, big.NewInt(step))
	}
	return y
}

func TestNearestAgainstBig(t *testing.T) {
	hold := func(name string, a, got api.Int, ok bool, want *big.Int) {
		t.Helper()
		if b, wantOK := fromBig(want); got != b || ok != wantOK {
			t.Fatalf("%s(%v) = %v, %v, not %v", name, a, got, ok, want)
		}
	}
	for _, a := range numbers() {
		x := toBig(a)
		if whole.Exact(a) != isFloat(x) {
			t.Fatalf("Exact(%v) is %v", a, whole.Exact(a))
		}
		got, ok := whole.ExactUp(a)
		hold("ExactUp", a, got, ok, rounded(x, big.ToPositiveInf))
		got, ok = whole.ExactDown(a)
		hold("ExactDown", a, got, ok, rounded(x, big.ToNegativeInf))
		got, ok = whole.RoughUp(a)
		hold("RoughUp", a, got, ok, nearestRough(x, 1))
		got, ok = whole.RoughDown(a)
		hold("RoughDown", a, got, ok, nearestRough(x, -1))
	}
}
