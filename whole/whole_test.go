package whole_test

import (
	"cmp"
	"math"
	"math/big"
	"testing"

	"entrepot/api"
	"entrepot/whole"
)

// Promise 2.1: May, Of, OfUint, ToInt, ToUint, Cmp, Next, Prev.

func TestMay(t *testing.T) {
	for _, a := range []api.Int{zero, one, minusOne, plus(0, 1), minus(0, 1), minus(0, 0, 0, 1), top, bottom} {
		if !whole.May(a) {
			t.Errorf("May(%v) is false", a)
		}
	}
	if whole.May(none) {
		t.Error("a sign without a number may be")
	}
}

func TestOf(t *testing.T) {
	cases := []struct {
		v    int64
		want api.Int
	}{
		{0, zero}, {1, one}, {-1, minusOne}, {10, plus(10)}, {-10, minus(10)},
		{1<<53 + 1, plus(1<<53 + 1)}, {-1<<53 - 1, minus(1<<53 + 1)},
		{math.MaxInt64, plus(1<<63 - 1)}, {-math.MaxInt64, minus(1<<63 - 1)}, {math.MinInt64, minus(1 << 63)},
	}
	for _, c := range cases {
		if got := whole.Of(c.v); got != c.want {
			t.Errorf("Of(%d) = %v", c.v, got)
		}
	}
	for _, v := range []uint64{0, 1, 1 << 53, 1<<63 - 1, 1 << 63, 1<<63 + 1, full} {
		if got := whole.OfUint(v); got != plus(v) {
			t.Errorf("OfUint(%d) = %v", v, got)
		}
	}
}

func TestToInt(t *testing.T) {
	cases := []struct {
		a  api.Int
		v  int64
		ok bool
	}{
		{zero, 0, true}, {one, 1, true}, {minusOne, -1, true},
		{plus(1<<63 - 1), math.MaxInt64, true}, {minus(1<<63 - 1), -math.MaxInt64, true}, {minus(1 << 63), math.MinInt64, true},
		{plus(1 << 63), 0, false}, {minus(1<<63 + 1), 0, false},
		{plus(full), 0, false}, {minus(full), 0, false},
		{plus(5, 1), 0, false}, {minus(5, 1), 0, false}, {plus(0, 1), 0, false}, {minus(0, 1), 0, false},
		{plus(5, 0, 1), 0, false}, {minus(5, 0, 0, 1), 0, false},
		{top, 0, false}, {bottom, 0, false}, {none, 0, false},
	}
	for _, c := range cases {
		if v, ok := whole.ToInt(c.a); v != c.v || ok != c.ok {
			t.Errorf("ToInt(%v) = %d, %v", c.a, v, ok)
		}
	}
}

func TestToUint(t *testing.T) {
	cases := []struct {
		a  api.Int
		v  uint64
		ok bool
	}{
		{zero, 0, true}, {one, 1, true}, {plus(1 << 63), 1 << 63, true}, {plus(full), full, true},
		{minusOne, 0, false}, {minus(1 << 63), 0, false}, {minus(full), 0, false},
		{plus(0, 1), 0, false}, {plus(5, 1), 0, false}, {plus(5, 0, 1), 0, false}, {plus(5, 0, 0, 1), 0, false},
		{minus(5, 1), 0, false}, {top, 0, false}, {bottom, 0, false}, {none, 0, false},
	}
	for _, c := range cases {
		if v, ok := whole.ToUint(c.a); v != c.v || ok != c.ok {
			t.Errorf("ToUint(%v) = %d, %v", c.a, v, ok)
		}
	}
}

func TestCmp(t *testing.T) {
	rising := []api.Int{
		bottom, minus(full-1, full, full, full), minus(0, 0, 0, 1), minus(1, 1), minus(0, 1), minus(full), minus(1 << 63),
		minus(3), minus(2), minusOne, zero, one, plus(2), plus(3), plus(1 << 63), plus(full), plus(0, 1), plus(1, 1),
		plus(0, 0, 0, 1), plus(full-1, full, full, full), top,
	}
	for i, a := range rising {
		for j, b := range rising {
			if got := whole.Cmp(a, b); got != cmp.Compare(i, j) {
				t.Errorf("Cmp(%v, %v) = %d", a, b, got)
			}
		}
		if whole.Cmp(a, none) != 0 || whole.Cmp(none, a) != 0 {
			t.Errorf("Cmp of %v and of what may not be", a)
		}
	}
	if whole.Cmp(none, none) != 0 {
		t.Error("Cmp of two that may not be")
	}
}

func TestNextAndPrev(t *testing.T) {
	rising := [][2]api.Int{
		{bottom, minus(full-1, full, full, full)},
		{minus(1, 0, 0, 1), minus(0, 0, 0, 1)},
		{minus(0, 0, 0, 1), minus(full, full, full)},
		{minus(0, 1), minus(full)},
		{minus(1<<63 + 1), minus(1 << 63)},
		{minus(3), minus(2)},
		{minus(2), minusOne},
		{minusOne, zero},
		{zero, one},
		{one, plus(2)},
		{plus(1<<63 - 1), plus(1 << 63)},
		{plus(full), plus(0, 1)},
		{plus(full, full, full), plus(0, 0, 0, 1)},
		{plus(full-1, full, full, full), top},
	}
	for _, pair := range rising {
		if got, ok := whole.Next(pair[0]); !ok || got != pair[1] {
			t.Errorf("Next(%v) = %v, %v", pair[0], got, ok)
		}
		if got, ok := whole.Prev(pair[1]); !ok || got != pair[0] {
			t.Errorf("Prev(%v) = %v, %v", pair[1], got, ok)
		}
	}
	if got, ok := whole.Next(top); ok || got != zero {
		t.Errorf("Next of the greatest: %v, %v", got, ok)
	}
	if got, ok := whole.Prev(bottom); ok || got != zero {
		t.Errorf("Prev of the least: %v, %v", got, ok)
	}
}

// Promises 2.1, 2.2: of a number that may not be there is nothing.

func TestWhatMayNotBe(t *testing.T) {
	for name, call := range upAndDown() {
		if got, ok := call(none); ok || got != zero {
			t.Errorf("%s of what may not be: %v, %v", name, got, ok)
		}
	}
	if whole.Exact(none) {
		t.Error("what may not be is exact")
	}
	if got := whole.Print(none); got != "" {
		t.Errorf("Print of what may not be: %q", got)
	}
}

// Promise 2.1, of many: each answer is the number that math/big tells, or 0 and false.

func TestAgainstBig(t *testing.T) {
	for _, a := range numbers() {
		x := toBig(a)
		want, wantOK := fromBig(new(big.Int).Add(x, big.NewInt(1)))
		if got, ok := whole.Next(a); got != want || ok != wantOK {
			t.Fatalf("Next(%v) = %v, %v", a, got, ok)
		}
		want, wantOK = fromBig(new(big.Int).Sub(x, big.NewInt(1)))
		if got, ok := whole.Prev(a); got != want || ok != wantOK {
			t.Fatalf("Prev(%v) = %v, %v", a, got, ok)
		}
		if v, ok := whole.ToInt(a); ok != x.IsInt64() || ok && (v != x.Int64() || whole.Of(v) != a) || !ok && v != 0 {
			t.Fatalf("ToInt(%v) = %d, %v", a, v, ok)
		}
		if v, ok := whole.ToUint(a); ok != x.IsUint64() || ok && (v != x.Uint64() || whole.OfUint(v) != a) || !ok && v != 0 {
			t.Fatalf("ToUint(%v) = %d, %v", a, v, ok)
		}
		if !whole.May(a) {
			t.Fatalf("May(%v) is false", a)
		}
	}
}

func TestCmpAgainstBig(t *testing.T) {
	all := numbers()
	for i, a := range all {
		x := toBig(a)
		for j := i % 37; j < len(all); j += 37 {
			if want := x.Cmp(toBig(all[j])); whole.Cmp(a, all[j]) != want {
				t.Fatalf("Cmp(%v, %v) is not %d", a, all[j], want)
			}
		}
		if whole.Cmp(a, a) != 0 {
			t.Fatalf("Cmp of %v and itself", a)
		}
	}
}
