package utf_test

import (
	"math"
	"strconv"
	"strings"
	"testing"
	"unicode/utf8"

	"entrepot/utf"
)

// codePoints is the first and the last one of each length of bytes, those beside what is none, and some between.
var codePoints = []struct {
	c     int
	bytes string
}{
	{0x00, "\x00"}, {0x01, "\x01"}, {0x0A, "\n"}, {0x20, " "}, {0x30, "0"}, {0x41, "A"}, {0x7E, "~"}, {0x7F, "\x7F"},
	{0x80, "\xC2\x80"}, {0x81, "\xC2\x81"}, {0xBF, "\xC2\xBF"}, {0xC0, "\xC3\x80"}, {0xE9, "\xC3\xA9"}, {0xFF, "\xC3\xBF"},
	{0x100, "\xC4\x80"}, {0x3B1, "\xCE\xB1"}, {0x400, "\xD0\x80"}, {0x7C0, "\xDF\x80"}, {0x7FE, "\xDF\xBE"}, {0x7FF, "\xDF\xBF"},
	{0x800, "\xE0\xA0\x80"}, {0x801, "\xE0\xA0\x81"}, {0xFFF, "\xE0\xBF\xBF"}, {0x1000, "\xE1\x80\x80"}, {0x20AC, "\xE2\x82\xAC"},
	{0xCFFF, "\xEC\xBF\xBF"}, {0xD000, "\xED\x80\x80"}, {0xD7FE, "\xED\x9F\xBE"}, {0xD7FF, "\xED\x9F\xBF"}, {0xE000, "\xEE\x80\x80"}, {0xE001, "\xEE\x80\x81"},
	{0xFEFF, "\xEF\xBB\xBF"}, {0xFFFC, "\xEF\xBF\xBC"}, {0xFFFD, "\xEF\xBF\xBD"}, {0xFFFE, "\xEF\xBF\xBE"}, {0xFFFF, "\xEF\xBF\xBF"},
	{0x10000, "\xF0\x90\x80\x80"}, {0x10001, "\xF0\x90\x80\x81"}, {0x1D11E, "\xF0\x9D\x84\x9E"}, {0x1F600, "\xF0\x9F\x98\x80"}, {0x3FFFF, "\xF0\xBF\xBF\xBF"},
	{0x40000, "\xF1\x80\x80\x80"}, {0xFFFFF, "\xF3\xBF\xBF\xBF"}, {0x100000, "\xF4\x80\x80\x80"}, {0x10FFFE, "\xF4\x8F\xBF\xBE"}, {0x10FFFF, "\xF4\x8F\xBF\xBF"},
}

// broken is texts in which no code point stands at any byte.
var broken = []string{
	"\x80", "\x8F", "\x90", "\x9F", "\xA0", "\xBF", "\x80\x80", "\xBF\xBF\xBF", "\x80\xBF\x80\xBF\x80", // bytes that only go on
	"\xC0", "\xC1", "\xC0\x80", "\xC0\xAF", "\xC0\xBF", "\xC1\x80", "\xC1\x81", "\xC1\xBF", // 00, 2F, 3F, 40, 41, 7F by two bytes
	"\xE0\x80\x80", "\xE0\x80\xAF", "\xE0\x81\xBF", "\xE0\x82\x80", "\xE0\x9F\xBF", // 0, 2F, 7F, 80, 7FF by three
	"\xF0\x80\x80\x80", "\xF0\x80\x80\xAF", "\xF0\x80\x81\xBF", "\xF0\x80\x82\x80", "\xF0\x80\x9F\xBF", "\xF0\x80\xA0\x80", "\xF0\x8D\xA0\x80", "\xF0\x8F\xBF\xBF", // 0 to FFFF by four
	"\xED\xA0\x80", "\xED\xA0\x81", "\xED\xAF\xBF", "\xED\xB0\x80", "\xED\xBF\xBE", "\xED\xBF\xBF", "\xED\xA0\xB4\xED\xB4\x9E", // surrogates, and a pair of them
	"\xF4\x90\x80\x80", "\xF4\x90\x80\x81", "\xF4\xBF\xBF\xBF", "\xF5\x80\x80\x80", "\xF6\x80\x80\x80", "\xF7\xBF\xBF\xBF", // 110000 and on
	"\xF8\x88\x80\x80\x80", "\xFB\xBF\xBF\xBF\xBF", "\xFC\x84\x80\x80\x80\x80", "\xFD\xBF\xBF\xBF\xBF\xBF", // five bytes, six
	"\xF5", "\xF6", "\xF7", "\xF8", "\xF9", "\xFA", "\xFB", "\xFC", "\xFD", "\xFE", "\xFF", "\xFE\xFF", "\xFF\xFE", "\xFE\x80\x80\x80\x80\x80\x80",
	"\xC2", "\xDF", "\xC2\xC2", "\xDF\xDF\xDF", // cut off by one byte
	"\xE0", "\xE1", "\xED", "\xEF", "\xE0\xA0", "\xE2\x82", "\xED\x9F", "\xEE\x80", "\xEF\xBF", "\xE2\xE2\x82", // by one, two
	"\xF0", "\xF1", "\xF4", "\xF0\x90", "\xF4\x8F", "\xF0\x90\x80", "\xF0\x9D\x84", "\xF4\x8F\xBF", "\xF0\xF0\x9D\xF0\x9D\x84", // by one, two, three
}

// edges is whole numbers that are no place in a short text.
var edges = []int{-1, -2, -3, -4, -255, -256, math.MinInt32, math.MinInt32 - 1, math.MinInt, math.MinInt + 1, 1000, math.MaxInt32, math.MaxInt32 + 1, math.MaxUint32, 1 << 32, 1<<32 + 1, math.MaxInt - 1, math.MaxInt}

// pieces is the units that Count counts of a text of these: no two of them beside each other make another one.
var pieces = []string{"a", "\x00", "é", "\u07ff", "\u0800", "€", "\uFFFD", "𝄞", "\U0010FFFF", "\xFF", "\xC0", "\xF5"}

// texts is all texts of so many pieces, each as the list of them.
func texts(n int) [][]string {
	if n == 0 {
		return [][]string{nil}
	}
	var out [][]string
	for _, shorter := range texts(n - 1) {
		for _, p := range pieces {
			out = append(out, append(shorter[:len(shorter):len(shorter)], p))
		}
	}
	return out
}

// tellingBytes is those at which what may stand there changes, and some between.
var tellingBytes = []byte{0x00, 0x41, 0x7F, 0x80, 0x8F, 0x90, 0x9F, 0xA0, 0xAC, 0xBF, 0xC0, 0xC1, 0xC2, 0xDF, 0xE0, 0xE1, 0xEC, 0xED, 0xEE, 0xEF, 0xF0, 0xF1, 0xF3, 0xF4, 0xF5, 0xF7, 0xF8, 0xFE, 0xFF}

func nexts(t *testing.T, s string, at, wantC, wantSize int) {
	t.Helper()
	if c, size := utf.Next(s, at); c != wantC || size != wantSize {
		t.Errorf("Next(%s, %d) = %#x, %d, not %#x, %d", brief(s), at, c, size, wantC, wantSize)
	}
}

func cuts(t *testing.T, s string, n int, want string) {
	t.Helper()
	if got := utf.Cut(s, n); got != want {
		t.Errorf("Cut(%s, %d) = %s, not %s", brief(s), n, brief(got), brief(want))
	}
}

// counts holds Count and Valid.
func counts(t *testing.T, s string, want int, valid bool) {
	t.Helper()
	if got := utf.Count(s); got != want {
		t.Errorf("Count(%s) = %d, not %d", brief(s), got, want)
	}
	if got := utf.Valid(s); got != valid {
		t.Errorf("Valid(%s) = %v", brief(s), got)
	}
}

// brief is a text that fits into a report.
func brief(s string) string {
	if len(s) > 60 {
		return strconv.QuoteToASCII(s[:30]) + ".. of " + strconv.Itoa(len(s)) + " bytes"
	}
	return strconv.QuoteToASCII(s)
}

// told is what the library has at a byte: it answers FFFD of one byte where none stands.
func told(s string, at int) (int, int) {
	r, size := utf8.DecodeRuneInString(s[at:])
	switch {
	case size == 0:
		return 0, 0
	case r == utf8.RuneError && size == 1:
		return -1, 1
	}
	return int(r), size
}

// isSurrogate is told by the document's own numbers.
func isSurrogate(c int) bool { return c >= 0xD800 && c <= 0xDFFF }

// noUnit is whether one byte stands alone in a piece that is no code point.
func noUnit(piece string) bool { return strings.Contains("\xFF\xC0\xF5", piece) }
