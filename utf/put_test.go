package utf_test

import (
	"math"
	"testing"

	"entrepot/utf"
)

// Promise 5.1: Put.

func puts(t *testing.T, c int, want string) {
	t.Helper()
	if got := utf.Put(c); got != want {
		t.Errorf("Put(%#x) = %s, not %s", c, brief(got), brief(want))
	}
}

func TestPutOfCodePoints(t *testing.T) {
	for _, p := range codePoints {
		puts(t, p.c, p.bytes)
	}
}

func TestPutOfNone(t *testing.T) {
	none := []int{0xD800, 0xD801, 0xDABC, 0xDBFF, 0xDC00, 0xDFFE, 0xDFFF, 0x110000, 0x110001, 0x1FFFFF, 0x200000, 0x3FFFFFF, 0x4000000, math.MaxInt32 - 1, math.MaxInt32}
	for _, c := range none {
		puts(t, c, "")
	}
	for c := -1; c > -0x110001; c-- {
		puts(t, c, "")
	}
}

// Numbers of which a rune would keep a code point's bits alone.
func TestPutOfFarNumbers(t *testing.T) {
	for _, far := range []int{1 << 21, 1 << 24, 1 << 30, 1 << 31, 1 << 32, 1 << 33, 1 << 40, 1 << 62, math.MinInt, -1 << 32, -1 << 31, -1 << 24} {
		for _, p := range codePoints {
			puts(t, far+p.c, "")
			puts(t, far|p.c, "")
		}
	}
	for _, c := range edges {
		if c < 0 || c > 0x10FFFF {
			puts(t, c, "")
		}
	}
	puts(t, math.MaxInt, "")
	puts(t, math.MaxInt-0xFFFF, "")
	puts(t, math.MaxUint32, "")
}

func TestPutOfAll(t *testing.T) {
	for c := range 0x200000 {
		want := ""
		if c <= 0x10FFFF && !isSurrogate(c) {
			want = string(rune(c))
		}
		puts(t, c, want)
	}
}

// What Put answers, Next reads, and no other bytes.
func TestPutAndNext(t *testing.T) {
	for c := -0x100; c < 0x110100; c++ {
		s := utf.Put(c)
		if s == "" {
			continue
		}
		nexts(t, s, 0, c, len(s))
		nexts(t, "a"+s+"a", 1, c, len(s))
	}
}
