package float_test

import (
	"math"
	"math/big"
	"testing"

	"entrepot/api"
	"entrepot/float"
	"entrepot/whole"
)

// Promise 3.1: Class, May, Whole, OfWhole, Canon, Behind.

// edges is what 3.1 tells of a float and, but for the sign, of its negative.
var edges = []struct {
	bits   uint64
	class  int
	behind int
	whole  api.Int // of Class 0
}{
	{0, 0, 0, plus(0)},
	{bits(1), 0, 0, plus(1)},
	{bits(2), 0, 0, plus(2)},
	{bits(6), 0, 0, plus(6)},
	{bits(1<<52 + 1), 0, 0, plus(1<<52 + 1)},
	{bits(1<<53 - 1), 0, 0, plus(1<<53 - 1)},
	{bits(1 << 53), 0, 0, plus(1 << 53)},
	{bits(1<<53 + 2), 0, 0, plus(1<<53 + 2)},
	{power(1, 63), 0, 0, plus(1 << 63)},
	{bits(1<<64 - 1<<11), 0, 0, plus(high53)},
	{power(1, 64), 0, 0, plus(0, 1)},
	{power(3, 63), 0, 0, plus(1<<63, 1)},
	{power(1<<53-1, 64), 0, 0, plus(0, 1<<53-1)},
	{power(1, 255), 0, 0, plus(0, 0, 0, 1<<63)},
	{topWhole, 0, 0, plus(0, 0, 0, high53)},

	{bits(0.5), api.FPlain, 1, plus()},
	{bits(1.5), api.FPlain, 1, plus()},
	{bits(0.375), api.FPlain, 3, plus()},
	{bits(0.1), api.FPlain, 55, plus()},
	{bits(1 + 1.0/(1<<52)), api.FPlain, 52, plus()},
	{bits(1<<52 - 0.5), api.FPlain, 1, plus()},
	{bits(1<<51 + 0.5), api.FPlain, 1, plus()},
	{power(1, -63), api.FPlain, 63, plus()},
	{power(1, -64), api.FPlain, 64, plus()},
	{power(3, -64), api.FPlain, 64, plus()},
	{power(1<<53-1, -64), api.FPlain, 64, plus()},

	{power(1, -65), api.FFine, 65, plus()},
	{power(3, -65), api.FFine, 65, plus()},
	{power(1<<53-1, -65), api.FFine, 65, plus()},
	{power(1, -1021), api.FFine, 1021, plus()},
	{leastNormal, api.FFine, 1022, plus()},
	{leastNormal + 1, api.FFine, 1074, plus()},
	{topSubnormal, api.FFine, 1074, plus()},
	{leastNormal >> 1, api.FFine, 1023, plus()},
	{leastSubnormal, api.FFine, 1074, plus()},
	{2 * leastSubnormal, api.FFine, 1073, plus()},
	{two256, api.FFine, 0, plus()},
	{two256 + 1, api.FFine, 0, plus()},
	{power(1, 320), api.FFine, 0, plus()},
	{bits(1e300), api.FFine, 0, plus()},
	{power(1, 1023), api.FFine, 0, plus()},
	{topFinite, api.FFine, 0, plus()},
}

func TestEdges(t *testing.T) {
	for _, c := range edges {
		for _, b := range []uint64{c.bits, 1<<63 | c.bits} {
			want := c.whole
			want.Neg = b != c.bits && want != plus(0)
			if got := float.Class(b); got != c.class {
				t.Errorf("Class(%#x) = %d, not %d", b, got, c.class)
			}
			if got := float.Behind(b); got != c.behind {
				t.Errorf("Behind(%#x) = %d, not %d", b, got, c.behind)
			}
			if got, ok := float.Whole(b); got != want || ok != (c.class == 0) {
				t.Errorf("Whole(%#x) = %v, %v", b, got, ok)
			}
			if float.May(b) != (c.class != 0) {
				t.Errorf("May(%#x) is %v", b, float.May(b))
			}
			if got := float.Canon(b); got != b {
				t.Errorf("Canon(%#x) = %#x", b, got)
			}
		}
	}
}

func TestInfinities(t *testing.T) {
	for b, class := range map[uint64]int{infinity: api.FInf, minusInfinity: api.FNeg} {
		a, ok := float.Whole(b)
		if a != plus(0) || ok || float.Class(b) != class || !float.May(b) || float.Canon(b) != b || float.Behind(b) != 0 {
			t.Errorf("of %#x: Class %d, Whole %v, %v, Behind %d", b, float.Class(b), a, ok, float.Behind(b))
		}
	}
}

func TestNaNs(t *testing.T) {
	if float.NaN != 0x7FF8000000000000 {
		t.Error("the one NaN is another")
	}
	for _, b := range nans() {
		a, ok := float.Whole(b)
		if a != plus(0) || ok || float.Class(b) != api.FNaN || float.Canon(b) != float.NaN || float.Behind(b) != 0 {
			t.Errorf("of %#x: Class %d, Whole %v, %v, Canon %#x, Behind %d", b, float.Class(b), a, ok, float.Canon(b), float.Behind(b))
		}
		if float.May(b) != (b == float.NaN) {
			t.Errorf("May(%#x) is %v", b, float.May(b))
		}
	}
}

func TestOfWhole(t *testing.T) {
	for _, c := range edges {
		if c.class != 0 {
			continue
		}
		if got, ok := float.OfWhole(c.whole); got != c.bits || !ok {
			t.Errorf("OfWhole(%v) = %#x, %v", c.whole, got, ok)
		}
		if c.whole == plus(0) {
			continue
		}
		if got, ok := float.OfWhole(minus(c.whole.N[:]...)); got != 1<<63|c.bits || !ok {
			t.Errorf("OfWhole of -%v = %#x, %v", c.whole, got, ok)
		}
	}
}

func TestOfWholeOfWhatNoFloatIs(t *testing.T) {
	rough := [][]uint64{
		{1<<53 + 1}, {1<<53 + 3}, {1<<54 - 1}, {1<<54 + 2}, {1<<63 - 1}, {full}, {1<<64 - 1<<10}, {1, 1}, {1 << 11, 1}, {1, 0, 0, 1},
		{0, 0, 0, 1<<63 + 1<<10}, {1, 0, 0, high53}, {full, full, full, high53 - 1}, {0, 0, 0, full}, {full, full, full, full},
	}
	for _, limbs := range rough {
		for _, a := range []api.Int{plus(limbs...), minus(limbs...)} {
			if got, ok := float.OfWhole(a); got != 0 || ok {
				t.Errorf("OfWhole(%v) = %#x, %v", a, got, ok)
			}
		}
	}
	if got, ok := float.OfWhole(none); got != 0 || ok {
		t.Errorf("OfWhole of a sign without a number: %#x, %v", got, ok)
	}
}

// told is what 3.1 says of a float whose number math/big has.
func told(x *big.Rat) (class, behind int, a api.Int) {
	behind = x.Denom().BitLen() - 1 // a power of two
	if x.IsInt() {
		if a, ok := fromBig(x.Num()); ok {
			return 0, 0, a
		}
		return api.FFine, 0, api.Int{}
	}
	if behind <= 64 {
		return api.FPlain, behind, api.Int{}
	}
	return api.FFine, behind, api.Int{}
}

func TestAgainstBig(t *testing.T) {
	for _, b := range all() {
		var behind int
		var a api.Int
		canon := b
		_, x, class := doubleLayout.read(b)
		if x != nil {
			class, behind, a = told(x)
		} else if class == api.FNaN {
			canon = float.NaN
		}
		got, ok := float.Whole(b)
		if float.Class(b) != class || float.Behind(b) != behind || got != a || ok != (class == 0) {
			t.Fatalf("of %#x: Class %d, Behind %d, Whole %v, %v", b, float.Class(b), float.Behind(b), got, ok)
		}
		if float.Canon(b) != canon || float.May(b) != (class != 0 && canon == b) {
			t.Fatalf("of %#x: Canon %#x, May %v", b, float.Canon(b), float.May(b))
		}
	}
}

// Promise 3.3: nothing is rounded between floats and whole numbers.

func TestWholeThereAndBack(t *testing.T) {
	for _, b := range all() {
		a, ok := float.Whole(b)
		if !ok {
			continue
		}
		back, ok := float.OfWhole(a)
		if !ok || back != b && b != minusZero || b == minusZero && back != 0 {
			t.Fatalf("OfWhole of Whole(%#x) = %#x, %v", b, back, ok)
		}
	}
}

func TestOfWholeAgainstBig(t *testing.T) {
	hold := func(x *big.Int) {
		t.Helper()
		a, ok := fromBig(x)
		if !ok {
			return
		}
		f, accuracy := new(big.Float).SetInt(x).Float64()
		exact := accuracy == big.Exact
		got, ok := float.OfWhole(a)
		if ok != exact || exact && got != math.Float64bits(f) || !exact && got != 0 {
			t.Fatalf("OfWhole(%v) = %#x, %v", a, got, ok)
		}
		if back, _ := float.Whole(got); exact && back != a {
			t.Fatalf("Whole of OfWhole(%v) = %v", a, back)
		}
	}
	for k := range uint(257) {
		x := new(big.Int).Lsh(big.NewInt(1), k)
		unit := new(big.Int).Lsh(big.NewInt(1), max(k, 54)-54)
		for d := int64(-4); d <= 4; d++ {
			for _, step := range []*big.Int{big.NewInt(1), unit} {
				y := new(big.Int).Add(x, new(big.Int).Mul(step, big.NewInt(d)))
				hold(y)
				hold(new(big.Int).Neg(y))
			}
		}
	}
	for k, word := range scattered(2000) {
		x := new(big.Int).SetUint64(word >> (k % 40))
		x.Lsh(x, uint(k)%200)
		hold(x)
		hold(x.Neg(x))
	}
}

func TestWholeNeedsNoSign(t *testing.T) {
	a, ok := float.Whole(minusZero)
	if !ok || a != whole.Of(0) || !whole.May(a) {
		t.Errorf("Whole of -0: %v, %v", a, ok)
	}
	if b, ok := float.OfWhole(a); b != 0 || !ok {
		t.Errorf("OfWhole(0) = %#x, %v", b, ok)
	}
}
