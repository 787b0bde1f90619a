package utf_test

import (
	"math"
	"slices"
	"strings"
	"testing"
	"unicode/utf8"
	"unsafe"

	"entrepot/utf"
)

// Promise 5.1: Valid, Count, Cut; promise 5.2.

func TestOfTheEmptyText(t *testing.T) {
	counts(t, "", 0, true)
	for _, n := range append(edges, 0, 1, 2) {
		cuts(t, "", n, "")
	}
}

func TestOfCodePoints(t *testing.T) {
	var all strings.Builder
	for i, p := range codePoints {
		counts(t, p.bytes, 1, true)
		counts(t, strings.Repeat(p.bytes, 7), 7, true)
		cuts(t, p.bytes+p.bytes, 1, p.bytes)
		cuts(t, all.String()+p.bytes+"a", i, all.String())
		all.WriteString(p.bytes)
		counts(t, all.String(), i+1, true)
		cuts(t, all.String()+"\xFF", i+1, all.String())
	}
}

func TestWhereNoneStands(t *testing.T) {
	for _, s := range broken {
		counts(t, s, len(s), false)
		counts(t, "é"+s+"𝄞", len(s)+2, false)
		counts(t, s+"a", len(s)+1, false)
		counts(t, strings.Repeat("ab", 500)+s, len(s)+1000, false)
		for n := range len(s) + 1 {
			cuts(t, s, n, s[:n])
			cuts(t, "é"+s+"𝄞", n+1, "é"+s[:n])
		}
		cuts(t, "é"+s+"𝄞", len(s)+2, "é"+s+"𝄞")
		cuts(t, s, len(s)+1, s)
	}
}

func TestOfCutOff(t *testing.T) {
	for _, p := range codePoints {
		for size := 1; size < len(p.bytes); size++ {
			s := p.bytes + p.bytes[:size]
			counts(t, s, 1+size, false)
			counts(t, p.bytes[size:]+p.bytes, 1+len(p.bytes)-size, false)
			for n := range size + 1 {
				cuts(t, s, 1+n, p.bytes+p.bytes[:n])
			}
			cuts(t, s, 1+size+1, s)
		}
	}
}

func TestOfPieces(t *testing.T) {
	for n := range 5 {
		for _, list := range texts(n) {
			s := strings.Join(list, "")
			counts(t, s, n, !slices.ContainsFunc(list, noUnit))
			for k := -1; k <= n+1; k++ {
				cuts(t, s, k, strings.Join(list[:min(max(k, 0), n)], ""))
			}
			cuts(t, s, math.MinInt, "")
			cuts(t, s, math.MaxInt, s)
		}
	}
}

func TestCutByEdges(t *testing.T) {
	for _, s := range []string{"a", "ab", "é\xFFab", "𝄞𝄞", "\xF0\x9D", "\x80\x80\x80"} {
		for _, n := range edges {
			want := ""
			if n > 0 {
				want = s
			}
			cuts(t, s, n, want)
		}
		cuts(t, s, 0, "")
		cuts(t, s, utf.Count(s), s)
		cuts(t, s, utf.Count(s)+1, s)
	}
}

func TestOfLongTexts(t *testing.T) {
	for _, p := range []string{"a", "é", "€", "𝄞", "\xFF", "\xE2\x82"} {
		s := strings.Repeat(p, 300_000)
		units, valid := utf8.RuneCountInString(p), utf8.ValidString(p)
		counts(t, s, units*300_000, valid)
		counts(t, s+"\xFF", units*300_000+1, false)
		cuts(t, s, units*299_999, s[:299_999*len(p)])
		cuts(t, s+"a", units*300_000, s)
	}
}

// holdsText holds what Next, Count, Valid and Cut say of a text against the library and against one another.
func holdsText(t *testing.T, s string) {
	t.Helper()
	n, valid := 0, true
	var put strings.Builder
	for at := 0; at < len(s); n++ {
		c, size := utf.Next(s, at)
		if wantC, wantSize := told(s, at); c != wantC || size != wantSize {
			t.Fatalf("Next(%s, %d) = %#x, %d", brief(s), at, c, size)
		}
		if cut := utf.Cut(s, n); cut != s[:at] {
			t.Fatalf("Cut(%s, %d) = %s", brief(s), n, brief(cut))
		}
		valid = valid && c != -1
		put.WriteString(utf.Put(c))
		at += size
	}
	if utf.Count(s) != n || n != utf8.RuneCountInString(s) {
		t.Fatalf("Count(%s) = %d", brief(s), utf.Count(s))
	}
	if utf.Valid(s) != valid || valid != utf8.ValidString(s) {
		t.Fatalf("Valid(%s) = %v", brief(s), utf.Valid(s))
	}
	if (put.String() == s) != valid {
		t.Fatalf("the Puts of %s are %s", brief(s), brief(put.String()))
	}
}

func TestOfAllShortTexts(t *testing.T) {
	var all func(b []byte, more int, list []byte)
	all = func(b []byte, more int, list []byte) {
		holdsText(t, string(b))
		for _, x := range list {
			if more > 0 {
				all(append(b, x), more-1, list)
			}
		}
	}
	all(nil, 4, tellingBytes)
	all(nil, 6, []byte{0x41, 0x80, 0xA9, 0xC3, 0xE2, 0xF0, 0xFF})
}

// Promise 5.2: a valid text is the Puts of its code points.
func TestTextIsItsPuts(t *testing.T) {
	var every strings.Builder
	for c := range 0x110000 {
		every.WriteString(utf.Put(c))
	}
	long := strings.Repeat("aé€𝄞\x00\u07ff\uFFFD\U0010FFFF", 1000)
	for _, s := range []string{"", "a", "é", long, every.String()} {
		var put strings.Builder
		n := 0
		for at := 0; at < len(s); n++ {
			c, size := utf.Next(s, at)
			put.WriteString(utf.Put(c))
			at += max(size, 1)
		}
		if put.String() != s || !utf.Valid(s) {
			t.Errorf("the Puts of %s are %s", brief(s), brief(put.String()))
		}
		counts(t, s, n, true)
		if utf.Valid(s + "\xED\xA0\x80") {
			t.Errorf("a surrogate behind %s is let be", brief(s))
		}
	}
	counts(t, every.String(), 0x110000-0x800, true)
}

// What is answered is the caller's own: a cut shares nothing with its text.
func TestCutIsNew(t *testing.T) {
	s := strings.Repeat("é", 10)
	for _, n := range []int{1, 5, 10, 11} {
		if unsafe.StringData(utf.Cut(s, n)) == unsafe.StringData(s) {
			t.Errorf("Cut(%s, %d) shares its bytes", brief(s), n)
		}
	}
}
