package dyad_test

import (
	"regexp"
	"strings"
	"testing"

	"entrepot/api"
	"entrepot/dyad"
)

// Promise 4.2: Parse, what is no number as JSON writes it, and what is too long.

var number = regexp.MustCompile(`\A-?(0|[1-9][0-9]*)(\.[0-9]+)?([eE][+-]?[0-9]+)?\z`)

func TestParseOfNoNumber(t *testing.T) {
	texts := []string{
		"", "-", "+", ".", "e", "E", "-.", "-e", "e5", "-e5", ".e1", "--", "- ", "--1", "-+1", "+-1", "+1", "+0", "+0.5", "1-", "1+", "5-1",
		"00", "01", "007", "-00", "-01", "00.5", "01.5", "-01e1", "00e0", "0123", "0" + topText,
		"1.", "0.", "-1.", "-0.", ".5", "-.5", "1.e1", "0.e0", ".5e1", "1..5", "1.5.5", "1.5.", "1.-5", "1.+5", "1. 5", "1 .5",
		"1e", "1E", "1e+", "1e-", "1E+", "-0e", "1.5e", "1.5e-", "1ee1", "1e1e1", "1e--1", "1e+-1", "1e-+1", "1e++1", "1e.5", "1e1.5", "1e1.", "1e 1", "1e1 ", "1 e1", "1e1-", "1e1+1",
		" ", "  ", " 1", "1 ", "\t1", "1\t", "1\n", "\n1", "\r1", "1\r", "- 1", "-\t1", "1 2", "\v1", "1\f", "1\u00a0", "\u20031",
		"a", "1a", "a1", "0x10", "0X1", "0x1p-2", "0b1", "0o7", "1_000", "1,5", "1,000.5", "1f", "1.5f", "1d0", "1p3", "0.5L", "1n", "1e5x", "1.5x", "0x",
		"Infinity", "-Infinity", "inf", "-inf", "NaN", "nan", "null", "true", `"1"`, "[1]", "{}", "1;", "1/2", "1%", "$1", "(1)",
		"\x00", "1\x00", "\x001", "0\x00", "\xff", "1\xff", "1\xb1", "0.5\xff", "²", "1²", "١", "１", "1é", "−1", "1．5", "½", "1·5", "0.１", "1e１",
	}
	for _, s := range texts {
		parses(t, s, api.Value{}, api.ErrSyntax)
	}
}

// holdsGrammar holds what Parse refuses as no number against the grammar.
func holdsGrammar(t *testing.T, s string) {
	t.Helper()
	v, err := dyad.Parse(s)
	if (err == api.ErrSyntax) == number.MatchString(s) {
		t.Fatalf("Parse(%s) = %v, %d", brief(s), v, err)
	}
	if err != api.OK && v.Kind != 0 {
		t.Fatalf("Parse(%s) = %v beside %d", brief(s), v, err)
	}
}

func TestParseOfAllShortTexts(t *testing.T) {
	var all func(s string, more int)
	all = func(s string, more int) {
		holdsGrammar(t, s)
		if more == 0 {
			return
		}
		for _, c := range []string{"0", "5", "-", "+", ".", "e", "E", " "} {
			all(s+c, more-1)
		}
	}
	all("", 6)
}

func TestParseWithEachByte(t *testing.T) {
	for _, s := range []string{"", "0", "7", "-12", "12.5", "-0.25", "5e1", "2.5E-10", "100e+01"} {
		for at := range len(s) + 1 {
			for c := range 256 {
				holdsGrammar(t, s[:at]+string([]byte{byte(c)})+s[at:])
				if at < len(s) {
					holdsGrammar(t, s[:at]+string([]byte{byte(c)})+s[at+1:])
				}
			}
		}
	}
}

func TestParseAtTheLongest(t *testing.T) {
	cases := []struct {
		text  string // of 400 bytes
		value api.Value
		err   int
	}{
		{"1." + noughts(398), plus(1), api.OK},
		{"-1." + noughts(397), minus(1), api.OK},
		{"0." + noughts(398), plus(), api.OK},
		{"0.5" + noughts(397), floating(bits(0.5)), api.OK},
		{"1e" + noughts(397) + "2", plus(100), api.OK},
		{"5e-" + noughts(396) + "1", floating(bits(0.5)), api.OK},
		{"1" + noughts(394) + "e-394", plus(1), api.OK},
		{"0." + noughts(393) + "5e394", plus(5), api.OK},
		{"1" + noughts(399), api.Value{}, api.ErrUnrep},
		{strings.Repeat("9", 400), api.Value{}, api.ErrUnrep},
		{"0." + strings.Repeat("1", 398), api.Value{}, api.ErrUnrep},
		{noughts(400), api.Value{}, api.ErrSyntax},
		{strings.Repeat(" ", 400), api.Value{}, api.ErrSyntax},
		{strings.Repeat("-", 400), api.Value{}, api.ErrSyntax},
		{"1" + noughts(398) + ".", api.Value{}, api.ErrSyntax},
		{"1e" + noughts(397) + "x", api.Value{}, api.ErrSyntax},
		{strings.Repeat("x", 400), api.Value{}, api.ErrSyntax},
	}
	for _, c := range cases {
		if len(c.text) != 400 {
			t.Errorf("%s is not as long as it should be", brief(c.text))
		}
		parses(t, c.text, c.value, c.err)
		for _, longer := range []string{c.text + "0", c.text + " ", "-" + c.text, c.text + c.text, c.text + strings.Repeat("\x00", 10_000)} {
			parses(t, longer, api.Value{}, api.ErrLimit)
		}
	}
	for _, s := range []string{"1e" + noughts(398) + "2", noughts(1_000_000), strings.Repeat("\xff", 401), strings.Repeat("é", 201)} {
		parses(t, s, api.Value{}, api.ErrLimit)
	}
	parses(t, strings.Repeat("é", 200), api.Value{}, api.ErrSyntax) // it is bytes that are counted
}
