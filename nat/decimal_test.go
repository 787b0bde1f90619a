package nat_test

import (
	"math/big"
	"strings"
	"testing"

	"entrepot/api"
	"entrepot/nat"
)

// Promise 1.2: Print, Parse.

func TestPrintAndParse(t *testing.T) {
	cases := []struct {
		a    api.Nat
		text string
	}{
		{zero, "0"},
		{api.Nat{7}, "7"},
		{api.Nat{10}, "10"},
		{api.Nat{9_999_999_999_999_999_999}, "9999999999999999999"},
		{api.Nat{10_000_000_000_000_000_000}, "10000000000000000000"},
		{api.Nat{10_000_000_000_000_000_001}, "10000000000000000001"},
		{api.Nat{full}, "18446744073709551615"},
		{two64, "18446744073709551616"},
		{two128, "340282366920938463463374607431768211456"},
		{two192, "6277101735386680763835789423207666416102355444464034512896"},
		{two255, "57896044618658097711785492504343953926634992332820282019728792003956564819968"},
		{top, topText},
	}
	for _, c := range cases {
		if got := nat.Print(c.a); got != c.text {
			t.Errorf("Print(%v) = %s, not %s", c.a, got, c.text)
		}
		if a, ok := nat.Parse(c.text); !ok || a != c.a {
			t.Errorf("Parse(%s) = %v, %v", c.text, a, ok)
		}
	}
}

func TestPowersOfTen(t *testing.T) {
	a := nat.Of(1)
	for digits := 1; digits <= 78; digits++ {
		text := "1" + strings.Repeat("0", digits-1)
		if nat.Print(a) != text {
			t.Fatalf("Print of 10^%d: %s", digits-1, nat.Print(a))
		}
		if b, ok := nat.Parse(text); !ok || b != a {
			t.Fatalf("Parse(%s) = %v, %v", text, b, ok)
		}
		less, _ := nat.Sub(a, nat.Of(1))
		if digits > 1 && nat.Print(less) != strings.Repeat("9", digits-1) {
			t.Fatalf("Print of 10^%d - 1: %s", digits-1, nat.Print(less))
		}
		a, _ = nat.Mul(a, 10)
	}
}

func TestParseOfNoNumber(t *testing.T) {
	texts := []string{
		"", "00", "01", "007", "-0", "-1", "+1", "+", "-", " ", " 1", "1 ", "1\n", "\t1", "1.0", "1.", ".1", "1e2", "1E2",
		"0x10", "0b1", "0o7", "1_000", "1,000", "a", "1a", "a1", "/", ":", "1/", "1:", "\x00", "1\x00", "0\x00", "\xff",
		"1\xb1", "²", "١", "１", "1é",
		"115792089237316195423570985008687907853269984665640564039457584007913129639936", // 2^256
		"115792089237316195423570985008687907853269984665640564039457584007913129639940",
		"115792089237316195423570985008687907853269984665640564039457584007913129640000",
		"200000000000000000000000000000000000000000000000000000000000000000000000000000",
		strings.Repeat("9", 78),
		"1" + strings.Repeat("0", 78),
		"0" + topText,
		topText + "0",
		strings.Repeat("0", 100),
		strings.Repeat("1", 100_000),
	}
	for _, s := range texts {
		if a, ok := nat.Parse(s); ok || a != zero {
			t.Errorf("Parse(%.90q) = %v, %v", s, a, ok)
		}
	}
}

func TestParseOfEachByte(t *testing.T) {
	for c := range 256 {
		s := string([]byte{byte(c)})
		digit := c >= '0' && c <= '9'
		want := zero
		if digit {
			want[0] = uint64(c - '0')
		}
		if a, ok := nat.Parse(s); ok != digit || a != want {
			t.Errorf("Parse(%q) = %v, %v", s, a, ok)
		}
		if _, ok := nat.Parse("1" + s); ok != digit {
			t.Errorf("Parse(%q): %v", "1"+s, ok)
		}
	}
}

// Promise 1.3: nothing goes round on the way to a text and back, nor beyond the greatest number.

func TestNothingGoesRoundInTexts(t *testing.T) {
	for _, a := range append(edges(), scattered(1000)...) {
		text := nat.Print(a)
		if text != toBig(a).String() {
			t.Fatalf("Print(%v) = %s", a, text)
		}
		if b, ok := nat.Parse(text); !ok || b != a {
			t.Fatalf("Parse(%s) = %v, %v", text, b, ok)
		}
		over := new(big.Int).Add(beyond, toBig(a)).String()
		if b, ok := nat.Parse(over); ok || b != zero {
			t.Fatalf("Parse(%s) = %v, %v", over, b, ok)
		}
	}
}
