package whole_test

import (
	"math/big"
	"strings"
	"testing"

	"entrepot/api"
	"entrepot/whole"
)

// Promise 2.1: Print, Parse.

func TestPrintAndParse(t *testing.T) {
	cases := []struct {
		a    api.Int
		text string
	}{
		{zero, "0"}, {one, "1"}, {minusOne, "-1"}, {plus(10), "10"}, {minus(10), "-10"},
		{plus(1<<53 + 1), "9007199254740993"}, {minus(1<<53 + 1), "-9007199254740993"},
		{plus(1<<63 - 1), "9223372036854775807"}, {minus(1 << 63), "-9223372036854775808"},
		{plus(full), "18446744073709551615"}, {minus(full), "-18446744073709551615"},
		{plus(0, 1), "18446744073709551616"}, {minus(0, 1), "-18446744073709551616"},
		{minus(0, 0, 1), "-340282366920938463463374607431768211456"},
		{top, topText}, {bottom, "-" + topText},
	}
	for _, c := range cases {
		if got := whole.Print(c.a); got != c.text {
			t.Errorf("Print(%v) = %s, not %s", c.a, got, c.text)
		}
		if a, ok := whole.Parse(c.text); !ok || a != c.a {
			t.Errorf("Parse(%s) = %v, %v", c.text, a, ok)
		}
	}
}

func TestParseOfNoNumber(t *testing.T) {
	texts := []string{
		"", "-", "--", "-0", "--0", "--1", "---1", "+", "+0", "+1", "+-1", "-+1", "1-", "-1-", "1-1", "0-1",
		"00", "01", "007", "-00", "-01", "-007", "- 1", " -1", "-1 ", " 1", "1 ", "\t-1", "-1\n", "-1.0", "1.", "-.5",
		"1e2", "-1e2", "0x1", "-0x1", "1_0", "-1,000", "a", "-a", "-1a", "-/", "-:", "\x00", "-\x00", "-1\x00", "\xff",
		"\u22121", "\u20131", "-\u0661", "-\uff11", // another minus, a dash, other digits
		"115792089237316195423570985008687907853269984665640564039457584007913129639936", // 2^256
		"-115792089237316195423570985008687907853269984665640564039457584007913129639936",
		"115792089237316195423570985008687907853269984665640564039457584007913129639940",
		"-200000000000000000000000000000000000000000000000000000000000000000000000000000",
		"0" + topText, "-0" + topText, topText + "0", "-" + topText + "0",
		strings.Repeat("9", 100_000), "-" + strings.Repeat("1", 100_000), strings.Repeat("-", 100_000),
	}
	for _, s := range texts {
		if a, ok := whole.Parse(s); ok || a != zero {
			t.Errorf("Parse(%.90q) = %v, %v", s, a, ok)
		}
	}
}

// Promise 2.3: Print and Parse are each other's ways back.

func TestParseOfPrint(t *testing.T) {
	for _, a := range numbers() {
		text := whole.Print(a)
		if text != toBig(a).String() {
			t.Fatalf("Print(%v) = %s", a, text)
		}
		if b, ok := whole.Parse(text); !ok || b != a {
			t.Fatalf("Parse(%s) = %v, %v", text, b, ok)
		}
	}
}

func TestPrintOfParse(t *testing.T) {
	check := func(s string) {
		if a, ok := whole.Parse(s); ok && (whole.Print(a) != s || !whole.May(a)) || !ok && a != zero {
			t.Errorf("Parse(%q) = %v, %v, whose Print is %q", s, a, ok, whole.Print(a))
		}
	}
	const signs = "-+019 ./:"
	texts := []string{""}
	for range 5 { // all texts of at most 5 of these bytes
		var longer []string
		for _, s := range texts {
			check(s)
			for i := range len(signs) {
				longer = append(longer, s+signs[i:i+1])
			}
		}
		texts = longer
	}
	for _, s := range texts {
		check(s)
	}
	for c := range 256 {
		for _, ahead := range []string{"", "-", "1", "-1"} {
			s := ahead + string([]byte{byte(c)})
			check(s)
			if _, ok := whole.Parse(s + "5"); ok != isNumber(s+"5") {
				t.Errorf("Parse(%q) is %v", s+"5", ok)
			}
		}
	}
}

// isNumber is whether math/big, too, tells just that text of the number that it reads there.
func isNumber(s string) bool {
	x, ok := new(big.Int).SetString(s, 10)
	return ok && x.String() == s
}
