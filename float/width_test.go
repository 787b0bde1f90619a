package float_test

import (
	"testing"

	"entrepot/api"
	"entrepot/float"
)

// Promise 3.2: Half, Single, ToSingle, ToHalf.

// holdWidths holds both ways against the cases, with and without the sign.
func holdWidths[W uint16 | uint32](t *testing.T, name string, widen func(W) uint64, narrow func(uint64) (W, bool), sign W, cases map[W]uint64) {
	t.Helper()
	both := func(w W, b uint64) {
		t.Helper()
		if got := widen(w); got != b {
			t.Errorf("%s(%#x) = %#x, not %#x", name, w, got, b)
		}
		if got, ok := narrow(b); got != w || !ok {
			t.Errorf("To%s(%#x) = %#x, %v, not %#x", name, b, got, ok, w)
		}
	}
	for w, b := range cases {
		both(w, b)
		both(sign|w, 1<<63|b)
	}
}

func TestHalf(t *testing.T) {
	cases := map[uint16]uint64{
		0x0000: 0,
		0x0001: power(1, -24),
		0x0002: power(1, -23),
		0x0003: power(3, -24),
		0x0200: power(1, -15),
		0x03FE: power(1022, -24),
		0x03FF: power(1023, -24),
		0x0400: power(1, -14),
		0x0401: power(1025, -24),
		0x07FF: power(2047, -24),
		0x0800: power(1, -13),
		0x3555: bits(0.333251953125),
		0x3800: bits(0.5),
		0x3BFF: bits(0.99951171875),
		0x3C00: bits(1),
		0x3C01: bits(1.0009765625),
		0x3E00: bits(1.5),
		0x4000: bits(2),
		0x4248: bits(3.140625),
		0x7800: bits(32768),
		0x7BFE: bits(65472),
		0x7BFF: bits(65504),
		0x7C00: infinity,
	}
	holdWidths(t, "Half", float.Half, float.ToHalf, 1<<15, cases)
}

func TestSingle(t *testing.T) {
	cases := map[uint32]uint64{
		0x00000000: 0,
		0x00000001: power(1, -149),
		0x00000003: power(3, -149),
		0x00400000: power(1, -127),
		0x007FFFFF: power(1<<23-1, -149),
		0x00800000: power(1, -126),
		0x00800001: power(1<<23+1, -149),
		0x00FFFFFF: power(1<<24-1, -149),
		0x33800000: power(1, -24),
		0x38800000: power(1, -14),
		0x3DCCCCCD: bits(0.100000001490116119384765625),
		0x3F7FFFFF: power(1<<24-1, -24),
		0x3F800000: bits(1),
		0x3F800001: power(1<<23+1, -23),
		0x40490FDB: bits(3.1415927410125732421875),
		0x477FE000: bits(65504),
		0x477FF000: bits(65520),
		0x4B7FFFFF: bits(1<<24 - 1),
		0x4B800000: bits(1 << 24),
		0x4B800001: bits(1<<24 + 2),
		0x7F000000: power(1, 127),
		0x7F7FFFFF: power(1<<24-1, 104),
		0x7F800000: infinity,
	}
	holdWidths(t, "Single", float.Single, float.ToSingle, 1<<31, cases)
}

func TestNaNsOfAllWidths(t *testing.T) {
	for _, h := range []uint16{0x7E00, 0x7C01, 0x7D00, 0x7DFF, 0x7E01, 0x7FFF, 0xFE00, 0xFC01, 0xFDFF, 0xFFFF} {
		if got := float.Half(h); got != float.NaN {
			t.Errorf("Half(%#x) = %#x", h, got)
		}
	}
	for _, s := range []uint32{0x7FC00000, 0x7F800001, 0x7FA00000, 0x7FBFFFFF, 0x7FC00001, 0x7FFFFFFF, 0xFFC00000, 0xFF800001, 0xFFBFFFFF, 0xFFFFFFFF} {
		if got := float.Single(s); got != float.NaN {
			t.Errorf("Single(%#x) = %#x", s, got)
		}
	}
	for _, b := range nans() {
		if got, ok := float.ToSingle(b); got != 0x7FC00000 || !ok {
			t.Errorf("ToSingle(%#x) = %#x, %v", b, got, ok)
		}
		if got, ok := float.ToHalf(b); got != 0x7E00 || !ok {
			t.Errorf("ToHalf(%#x) = %#x, %v", b, got, ok)
		}
	}
}

func TestWhatNoHalfIs(t *testing.T) {
	floats := []uint64{
		bits(0.1), bits(65503), bits(65505), bits(65519), bits(65520), bits(65536), bits(1 << 17), power(1<<24-1, 104),
		bits(65504) - 1, bits(65504) + 1,
		bits(1) - 1, bits(1) + 1, power(1<<11+1, -11), power(1<<12-1, -12), bits(2049), bits(4095),
		power(1, -14) - 1, power(1, -14) + 1, power(2047, -25), power(2049, -25), power(2045, -25),
		power(1, -24) - 1, power(1, -24) + 1, power(3, -25), power(5, -25), power(7, -26), power(1, -25), power(1, -26), power(1, -149),
		power(1, 256), power(1, 1023), power(1, -1022), topSubnormal, leastSubnormal, topFinite, topWhole, infinity - 1,
	}
	for _, b := range floats {
		for _, b := range []uint64{b, 1<<63 | b} {
			if got, ok := float.ToHalf(b); got != 0 || ok {
				t.Errorf("ToHalf(%#x) = %#x, %v", b, got, ok)
			}
		}
	}
}

func TestWhatNoSingleIs(t *testing.T) {
	top := power(1<<24-1, 104)
	floats := []uint64{
		bits(0.1), bits(1<<24 + 1), bits(1<<25 - 1), bits(1<<53 - 1), bits(1) - 1, bits(1) + 1, power(1<<24+1, -24), power(1<<25-1, -25),
		top - 1, top + 1, power(1<<25-3, 103), power(1<<25-1, 103), power(1, 128), power(1, 256), power(1, 1023), topFinite, topWhole,
		power(1, -126) - 1, power(1, -126) + 1, power(1<<24-1, -150), power(1<<24+1, -150), power(1<<24-3, -150),
		power(1, -149) - 1, power(1, -149) + 1, power(3, -150), power(7, -151), power(1, -150), power(1, -151), power(1, -1022),
		topSubnormal, leastSubnormal, infinity - 1,
	}
	for _, b := range floats {
		for _, b := range []uint64{b, 1<<63 | b} {
			if got, ok := float.ToSingle(b); got != 0 || ok {
				t.Errorf("ToSingle(%#x) = %#x, %v", b, got, ok)
			}
		}
	}
}

func TestHalfOfAll(t *testing.T) {
	for h := range 1 << 16 {
		if got := float.Half(uint16(h)); !halfLayout.same(uint64(h), got) {
			t.Fatalf("Half(%#x) = %#x", h, got)
		}
	}
}

func TestSingleOfMany(t *testing.T) {
	for _, s := range singles() {
		if got := float.Single(s); !singleLayout.same(uint64(s), got) {
			t.Fatalf("Single(%#x) = %#x", s, got)
		}
	}
}

// Promise 3.3: nothing is rounded between the widths: each narrower float comes back, and a float is told
// to be a narrower one just if one of these is it.

func TestHalvesThereAndBack(t *testing.T) {
	numbers := map[uint64]uint16{}
	for h := range 1 << 16 {
		b := float.Half(uint16(h))
		if b == float.NaN {
			continue
		}
		numbers[b] = uint16(h)
		if got, ok := float.ToHalf(b); got != uint16(h) || !ok {
			t.Fatalf("ToHalf of Half(%#x) = %#x, %v", h, got, ok)
		}
	}
	hold := func(b uint64) {
		t.Helper()
		want, wantOK := numbers[b]
		if got, ok := float.ToHalf(b); float.Canon(b) != float.NaN && (got != want || ok != wantOK) {
			t.Fatalf("ToHalf(%#x) = %#x, %v", b, got, ok)
		}
	}
	for _, b := range all() {
		hold(b)
	}
	for b := range numbers {
		for k := range 52 {
			hold(b ^ 1<<k)
		}
		hold(b - 1)
	}
}

func TestSinglesThereAndBack(t *testing.T) {
	hold := func(b uint64) {
		t.Helper()
		_, x, class := doubleLayout.read(b)
		want := class == api.FInf || class == api.FNeg || x != nil && singleLayout.has(x)
		got, ok := float.ToSingle(b)
		if class != api.FNaN && (ok != want || ok && !singleLayout.same(uint64(got), b) || !ok && got != 0) {
			t.Fatalf("ToSingle(%#x) = %#x, %v", b, got, ok)
		}
	}
	for _, s := range singles() {
		b := float.Single(s)
		if b == float.NaN {
			continue
		}
		if got, ok := float.ToSingle(b); got != s || !ok {
			t.Fatalf("ToSingle of Single(%#x) = %#x, %v", s, got, ok)
		}
		for _, place := range []int{0, 15, 27, 28} { // behind those of a normal single
			hold(b ^ 1<<place)
		}
	}
	for _, b := range all() {
		hold(b)
	}
}
