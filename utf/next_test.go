package utf_test

import (
	"testing"

	"entrepot/utf"
)

// Promise 5.1: Next.

func TestNextOfCodePoints(t *testing.T) {
	for _, p := range codePoints {
		size := len(p.bytes)
		nexts(t, p.bytes, 0, p.c, size)
		for _, around := range []string{"a", "é", "€", "𝄞", "\x00", "\x80", "\xBF", "\xC3", "\xE2", "\xF0", "\xFF"} {
			nexts(t, p.bytes+around, 0, p.c, size)
			nexts(t, around+p.bytes, len(around), p.c, size)
			nexts(t, around+p.bytes+around, len(around), p.c, size)
		}
	}
}

func TestNextInTheMidst(t *testing.T) {
	for _, p := range codePoints {
		for at := 1; at < len(p.bytes); at++ {
			nexts(t, p.bytes, at, -1, 1)
			nexts(t, p.bytes+p.bytes, at, -1, 1)
			nexts(t, p.bytes+"a", at, -1, 1)
		}
	}
}

func TestNextBeyond(t *testing.T) {
	for _, s := range []string{"", "a", "é", "€", "𝄞", "abc", "a\xFF", "\x80", "\xF0\x9D\x84", "\x00"} {
		nexts(t, s, len(s), 0, 0)
		nexts(t, s, len(s)+1, 0, 0)
		for _, at := range edges {
			nexts(t, s, at, 0, 0)
		}
	}
	nexts(t, "", 0, 0, 0)
	nexts(t, "\x00", 0, 0, 1) // not as beyond
}

func TestNextWhereNoneStands(t *testing.T) {
	for _, s := range broken {
		for at := range len(s) {
			nexts(t, s, at, -1, 1)
			nexts(t, "a"+s, at+1, -1, 1)
			nexts(t, s+"a", at, -1, 1)
			nexts(t, "𝄞"+s+"𝄞", at+4, -1, 1)
		}
	}
}

func TestNextOfCutOff(t *testing.T) {
	for _, p := range codePoints {
		for size := 1; size < len(p.bytes); size++ {
			s := p.bytes[:size]
			for at := range size {
				nexts(t, s, at, -1, 1)
				nexts(t, "é"+s, at+2, -1, 1)
				nexts(t, s+p.bytes, at, -1, 1) // another one begins instead of going on
			}
			nexts(t, s+p.bytes, size, p.c, len(p.bytes))
		}
	}
}

// A byte that does not go on, in each place behind the first one.
func TestNextOfInterrupted(t *testing.T) {
	for _, p := range codePoints {
		for at := 1; at < len(p.bytes); at++ {
			for _, b := range []byte{0x00, 0x3F, 0x40, 0x7F, 0xC0, 0xC2, 0xE2, 0xF0, 0xFF} {
				s := []byte(p.bytes)
				s[at] = b
				nexts(t, string(s), 0, -1, 1)
			}
		}
	}
}

func TestNextOfAllCodePoints(t *testing.T) {
	for c := range 0x110000 {
		s := string(rune(c))
		if isSurrogate(c) {
			s = string([]byte{0xED, byte(c>>6&0x3F | 0x80), byte(c&0x3F | 0x80)})
			nexts(t, s, 0, -1, 1)
			continue
		}
		nexts(t, s, 0, c, len(s))
	}
}

// holdsNext holds the first byte of each text that goes on from b by more bytes of the list against the library.
func holdsNext(t *testing.T, b []byte, more int, list []byte) {
	t.Helper()
	s := string(b)
	c, size := utf.Next(s, 0)
	if wantC, wantSize := told(s, 0); c != wantC || size != wantSize {
		t.Fatalf("Next(%s, 0) = %#x, %d, not %#x, %d", brief(s), c, size, wantC, wantSize)
	}
	if more == 0 {
		return
	}
	for _, x := range list {
		holdsNext(t, append(b, x), more-1, list)
	}
}

func TestNextOfAllShortTexts(t *testing.T) {
	all := make([]byte, 256)
	for i := range all {
		all[i] = byte(i)
	}
	holdsNext(t, make([]byte, 0, 8), 3, all)
	holdsNext(t, make([]byte, 0, 8), 4, tellingBytes)
}
