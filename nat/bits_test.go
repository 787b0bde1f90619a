package nat_test

import (
	"math"
	"math/big"
	"testing"

	"entrepot/api"
	"entrepot/nat"
)

// Promise 1.1: Len, Trail, Shl, Shr, Bit.

func TestLenAndTrail(t *testing.T) {
	cases := []struct {
		a          api.Nat
		len, trail int
	}{
		{zero, 0, 256},
		{api.Nat{1}, 1, 0},
		{api.Nat{12}, 4, 2},
		{api.Nat{1 << 63}, 64, 63},
		{api.Nat{full}, 64, 0},
		{two64, 65, 64},
		{api.Nat{0, 4}, 67, 66},
		{api.Nat{8, 1}, 65, 3},
		{two128, 129, 128},
		{two192, 193, 192},
		{two255, 256, 255},
		{api.Nat{0, 1, 0, 1}, 193, 64},
		{top, 256, 0},
	}
	for _, c := range cases {
		if nat.Len(c.a) != c.len || nat.Trail(c.a) != c.trail {
			t.Errorf("Len, Trail of %v: %d, %d", c.a, nat.Len(c.a), nat.Trail(c.a))
		}
	}
	for k := range 256 {
		a := api.Nat{}
		a[k/64] = 1 << (k % 64)
		if nat.Len(a) != k+1 || nat.Trail(a) != k {
			t.Errorf("Len, Trail of 2^%d: %d, %d", k, nat.Len(a), nat.Trail(a))
		}
	}
}

func TestShl(t *testing.T) {
	cases := []struct {
		a    api.Nat
		k    int
		want api.Nat
		ok   bool
	}{
		{api.Nat{1}, 0, api.Nat{1}, true},
		{api.Nat{1}, -1, zero, false},
		{zero, -1, zero, false},
		{zero, math.MinInt, zero, false},
		{api.Nat{1}, math.MinInt, zero, false},
		{api.Nat{5}, 1, api.Nat{10}, true},
		{api.Nat{5}, 64, api.Nat{0, 5}, true},
		{api.Nat{1 << 63}, 1, two64, true},
		{api.Nat{3, 3, 3, 3}, 62, api.Nat{3 << 62, 3 << 62, 3 << 62, 3 << 62}, true},
		{api.Nat{3, 3, 3, 3}, 63, zero, false},
		{api.Nat{1}, 255, two255, true},
		{api.Nat{1}, 256, zero, false},
		{api.Nat{1}, 257, zero, false},
		{api.Nat{1}, math.MaxInt, zero, false},
		{api.Nat{2}, 254, two255, true},
		{api.Nat{2}, 255, zero, false},
		{top, 0, top, true},
		{top, 1, zero, false},
		{two255, 1, zero, false},
		// 0 has no bit that is 1: nothing of it goes over
		{zero, 0, zero, true},
		{zero, 255, zero, true},
		{zero, 256, zero, true},
		{zero, 1000, zero, true},
		{zero, math.MaxInt, zero, true},
	}
	for _, c := range cases {
		if got, ok := nat.Shl(c.a, c.k); got != c.want || ok != c.ok {
			t.Errorf("Shl(%v, %d) = %v, %v", c.a, c.k, got, ok)
		}
	}
}

func TestShr(t *testing.T) {
	cases := []struct {
		a    api.Nat
		k    int
		want api.Nat
	}{
		{api.Nat{5}, 0, api.Nat{5}},
		{api.Nat{5}, 1, api.Nat{2}},
		{api.Nat{5}, 3, zero},
		{two64, 1, api.Nat{1 << 63}},
		{two64, 64, api.Nat{1}},
		{api.Nat{1, 2, 3, 4}, 128, api.Nat{3, 4}},
		{two255, 255, api.Nat{1}},
		{two255, 256, zero},
		{top, 255, api.Nat{1}},
		{top, 256, zero},
		{top, 257, zero},
		{top, 320, zero},
		{top, math.MaxInt, zero},
		{top, -1, top},
		{top, -64, top},
		{api.Nat{5}, math.MinInt, api.Nat{5}},
	}
	for _, c := range cases {
		if got := nat.Shr(c.a, c.k); got != c.want {
			t.Errorf("Shr(%v, %d) = %v", c.a, c.k, got)
		}
	}
}

func TestBit(t *testing.T) {
	a := api.Nat{5, 0, 1 << 63, 1 << 63}
	ones := map[int]bool{0: true, 2: true, 191: true, 255: true}
	for i := -70; i < 330; i++ {
		if nat.Bit(a, i) != ones[i] {
			t.Errorf("Bit(%v, %d) = %v", a, i, nat.Bit(a, i))
		}
	}
	for _, i := range []int{math.MinInt, -256, -64, -1, 256, 257, 319, 512, math.MaxInt} {
		if nat.Bit(top, i) {
			t.Errorf("Bit(2^256 - 1, %d): there is no such place", i)
		}
	}
	for i := range 256 {
		if !nat.Bit(top, i) || nat.Bit(zero, i) {
			t.Errorf("Bit(.., %d)", i)
		}
	}
}

// Promise 1.3: nothing goes round in shifts.

func TestNothingGoesRoundInShifts(t *testing.T) {
	for _, a := range append(edges(), scattered(200)...) {
		x := toBig(a)
		if nat.Len(a) != x.BitLen() {
			t.Fatalf("Len(%v) = %d", a, nat.Len(a))
		}
		if x.Sign() != 0 && nat.Trail(a) != int(x.TrailingZeroBits()) {
			t.Fatalf("Trail(%v) = %d", a, nat.Trail(a))
		}
		for k := range 330 {
			want, wantOK := fromBig(new(big.Int).Lsh(x, uint(k)))
			if got, ok := nat.Shl(a, k); got != want || ok != wantOK {
				t.Fatalf("Shl(%v, %d) = %v, %v", a, k, got, ok)
			}
			want, _ = fromBig(new(big.Int).Rsh(x, uint(k)))
			if got := nat.Shr(a, k); got != want {
				t.Fatalf("Shr(%v, %d) = %v", a, k, got)
			}
			if nat.Bit(a, k) != (x.Bit(k) == 1) {
				t.Fatalf("Bit(%v, %d) = %v", a, k, nat.Bit(a, k))
			}
		}
	}
}
