package nat_test

import (
	"math/big"
	"testing"

	"entrepot/api"
	"entrepot/nat"
)

// Promise 1.1: Of, Low, Cmp, Add, Sub, Mul, Div.

func TestOf(t *testing.T) {
	for _, v := range []uint64{0, 1, 10, 1 << 63, full} {
		if got := nat.Of(v); got != (api.Nat{v, 0, 0, 0}) {
			t.Errorf("Of(%d) = %v", v, got)
		}
	}
}

func TestLow(t *testing.T) {
	cases := []struct {
		a  api.Nat
		v  uint64
		ok bool
	}{
		{zero, 0, true},
		{api.Nat{7}, 7, true},
		{api.Nat{full}, full, true},
		{two64, 0, false},
		{api.Nat{5, 1}, 0, false},
		{api.Nat{5, 0, 1}, 0, false},
		{api.Nat{5, 0, 0, 1}, 0, false},
		{top, 0, false},
	}
	for _, c := range cases {
		if v, ok := nat.Low(c.a); v != c.v || ok != c.ok {
			t.Errorf("Low(%v) = %d, %v", c.a, v, ok)
		}
	}
}

func TestCmp(t *testing.T) {
	rising := []api.Nat{
		zero, {1}, {1 << 63}, {full}, two64, {1, 1}, {0, 2}, {full, full}, two128, {full, full, full},
		two192, {full, full, full, 1}, {0, 0, 0, 2}, two255, {full - 1, full, full, full}, top,
	}
	for i, a := range rising {
		for j, b := range rising {
			want := 0
			if i < j {
				want = -1
			} else if i > j {
				want = 1
			}
			if got := nat.Cmp(a, b); got != want {
				t.Errorf("Cmp(%v, %v) = %d, not %d", a, b, got, want)
			}
		}
	}
}

func TestAddAndSub(t *testing.T) {
	cases := []struct{ a, b, sum api.Nat }{
		{zero, zero, zero},
		{api.Nat{2}, api.Nat{3}, api.Nat{5}},
		{api.Nat{full}, api.Nat{1}, two64},
		{api.Nat{full, full}, api.Nat{1}, two128},
		{api.Nat{full, full, full}, api.Nat{1}, two192},
		{api.Nat{full, full, full, full - 1}, api.Nat{1}, api.Nat{0, 0, 0, full}},
		{api.Nat{full, 5, full, 7}, api.Nat{full, full, full, 1}, api.Nat{full - 1, 5, full, 9}},
		{zero, top, top},
		{api.Nat{full - 1, full, full, full}, api.Nat{1}, top},
	}
	for _, c := range cases {
		if got, ok := nat.Add(c.a, c.b); !ok || got != c.sum {
			t.Errorf("Add(%v, %v) = %v, %v", c.a, c.b, got, ok)
		}
		if got, ok := nat.Sub(c.sum, c.b); !ok || got != c.a {
			t.Errorf("Sub(%v, %v) = %v, %v", c.sum, c.b, got, ok)
		}
	}
}

func TestMul(t *testing.T) {
	cases := []struct {
		a  api.Nat
		m  uint64
		p  api.Nat
		ok bool
	}{
		{zero, full, zero, true},
		{top, 0, zero, true},
		{top, 1, top, true},
		{api.Nat{6}, 7, api.Nat{42}, true},
		{api.Nat{full}, full, api.Nat{1, full - 1}, true},
		{api.Nat{full, full, full}, full, api.Nat{1, full, full, full - 1}, true},
		{api.Nat{1 << 63, 0, 1 << 63}, 2, api.Nat{0, 1, 0, 1}, true},
		{api.Nat{full, full, full, 1<<63 - 1}, 2, api.Nat{full - 1, full, full, full}, true},
		{two255, 2, zero, false},
		{two192, full, api.Nat{0, 0, 0, full}, true},
		{top, 2, zero, false},
		{top, full, zero, false},
		{api.Nat{0, 0, 0, 1 << 32}, 1 << 32, zero, false},
	}
	for _, c := range cases {
		if p, ok := nat.Mul(c.a, c.m); p != c.p || ok != c.ok {
			t.Errorf("Mul(%v, %d) = %v, %v", c.a, c.m, p, ok)
		}
	}
}

func TestDiv(t *testing.T) {
	cases := []struct {
		a    api.Nat
		d    uint64
		q    api.Nat
		rest uint64
		ok   bool
	}{
		{zero, 0, zero, 0, false},
		{api.Nat{5}, 0, zero, 0, false},
		{top, 0, zero, 0, false},
		{zero, 1, zero, 0, true},
		{zero, full, zero, 0, true},
		{api.Nat{17}, 5, api.Nat{3}, 2, true},
		{api.Nat{4}, 5, zero, 4, true},
		{top, 1, top, 0, true},
		{top, full, api.Nat{1, 1, 1, 1}, 0, true},
		{top, 2, api.Nat{full, full, full, 1<<63 - 1}, 1, true},
		{two64, 2, api.Nat{1 << 63}, 0, true},
		{two64, full, api.Nat{1}, 1, true},
		{two192, 1 << 63, api.Nat{0, 0, 2}, 0, true},
		{api.Nat{full - 1, full - 1}, full, api.Nat{full}, full - 2, true},
	}
	for _, c := range cases {
		if q, rest, ok := nat.Div(c.a, c.d); q != c.q || rest != c.rest || ok != c.ok {
			t.Errorf("Div(%v, %d) = %v, %d, %v", c.a, c.d, q, rest, ok)
		}
	}
}

// Promise 1.3: nothing goes round. Each answer is the number itself, or 0 and false.

func TestNothingGoesRoundInPairs(t *testing.T) {
	all := append(edges(), scattered(120)...)
	for _, a := range all {
		x := toBig(a)
		for _, b := range all {
			y := toBig(b)
			if want := x.Cmp(y); nat.Cmp(a, b) != want {
				t.Fatalf("Cmp(%v, %v) is not %d", a, b, want)
			}
			want, wantOK := fromBig(new(big.Int).Add(x, y))
			if got, ok := nat.Add(a, b); got != want || ok != wantOK {
				t.Fatalf("Add(%v, %v) = %v, %v", a, b, got, ok)
			}
			want, wantOK = fromBig(new(big.Int).Sub(x, y))
			if got, ok := nat.Sub(a, b); got != want || ok != wantOK {
				t.Fatalf("Sub(%v, %v) = %v, %v", a, b, got, ok)
			}
		}
	}
}

func TestNothingGoesRoundByLimbs(t *testing.T) {
	factors := []uint64{0, 1, 2, 3, 10, 1<<32 - 1, 1 << 32, 1<<63 - 1, 1 << 63, full - 1, full}
	for _, a := range scattered(40) {
		factors = append(factors, a[0])
	}
	for _, a := range append(edges(), scattered(400)...) {
		x := toBig(a)
		for _, m := range factors {
			y := new(big.Int).SetUint64(m)
			want, wantOK := fromBig(new(big.Int).Mul(x, y))
			if got, ok := nat.Mul(a, m); got != want || ok != wantOK {
				t.Fatalf("Mul(%v, %d) = %v, %v", a, m, got, ok)
			}
			if m == 0 {
				continue
			}
			bigQ, bigR := new(big.Int).QuoRem(x, y, new(big.Int))
			want, _ = fromBig(bigQ)
			if q, rest, ok := nat.Div(a, m); q != want || rest != bigR.Uint64() || !ok {
				t.Fatalf("Div(%v, %d) = %v, %d, %v", a, m, q, rest, ok)
			}
		}
	}
}
