package json

import (
	"strconv"
	"strings"

	"entrepot/utf"
)

const (
	quote     = `"`
	backslash = `\`
	hexDigits = "0123456789abcdef"
)

// A letter behind a backslash means the byte that stands in its place in meant; these are written so.
const (
	letters = `"\bfnrt`
	meant   = "\"\\\b\f\n\r\t"
)

// What may be read besides: a slash, which means itself.
const slash = "/"

// Surrogates: highs, from the first one on, then as many lows; each stands for ten bits of what is
// above the code points of four hexadecimal digits.
const (
	firstHigh     = 0xD800
	firstLow      = 0xDC00
	surrogateBits = 10
	codeDigits    = 4
	above         = 1 << (4 * codeDigits)
)

// text is read from behind its first quote on.
func (r *reader) text() (string, bool) {
	var out strings.Builder
	for {
		c, size := utf.Next(r.rest, 0)
		if c < ' ' { // the end, and what is no code point, too
			return "", false
		}
		part := r.rest[:size]
		r.rest = r.rest[size:]
		if part == quote {
			return out.String(), true
		}
		if part == backslash {
			var ok bool
			if part, ok = r.escape(); !ok {
				return "", false
			}
		}
		out.WriteString(part)
	}
}

// escape is what is meant from behind a backslash on.
func (r *reader) escape() (string, bool) {
	if r.cut("u") {
		return r.escapedPoint()
	}
	if r.rest == "" {
		return "", false
	}
	at := strings.IndexByte(letters+slash, r.rest[0])
	if at < 0 {
		return "", false
	}
	r.rest = r.rest[1:]
	return (meant + slash)[at : at+1], true
}

// escapedPoint is a code point by its digits, or by those of a pair of surrogates.
func (r *reader) escapedPoint() (string, bool) {
	c, ok := r.code()
	if ok && isSurrogate(c, firstHigh) && r.cut(`\u`) {
		var low int
		if low, ok = r.code(); ok && isSurrogate(low, firstLow) {
			c = above + (c-firstHigh)<<surrogateBits + (low - firstLow)
		}
	}
	text := utf.Put(c) // "" of a surrogate that is left alone
	return text, ok && text != ""
}

func isSurrogate(c, first int) bool { return c>>surrogateBits == first>>surrogateBits }

// code is four hexadecimal digits.
func (r *reader) code() (int, bool) {
	if len(r.rest) < codeDigits {
		return 0, false
	}
	c, err := strconv.ParseUint(r.rest[:codeDigits], len(hexDigits), 4*codeDigits)
	r.rest = r.rest[codeDigits:]
	return int(c), err == nil
}

func appendText(b []byte, s string) []byte {
	b = append(b, quote...)
	for i := range len(s) {
		b = appendByte(b, s[i])
	}
	return append(b, quote...)
}

func appendByte(b []byte, c byte) []byte {
	if at := strings.IndexByte(meant, c); at >= 0 {
		return append(b, '\\', letters[at])
	}
	if c < ' ' {
		return append(b, '\\', 'u', '0', '0', hexDigits[c>>4], hexDigits[c&0xF])
	}
	return append(b, c)
}
