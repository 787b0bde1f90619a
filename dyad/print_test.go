package dyad_test

import (
	"math/big"
	"regexp"
	"strings"
	"testing"

	"entrepot/api"
	"entrepot/dyad"
	"entrepot/float"
)

// Promise 4.1: Print.

// texts is plain floats above 0 as they are printed.
var texts = []struct {
	bits uint64
	text string
}{
	{bits(0.5), "0.5"},
	{bits(1.5), "1.5"},
	{bits(2.5), "2.5"},
	{bits(10.5), "10.5"},
	{bits(100.5), "100.5"},
	{bits(1e15 + 0.5), "1000000000000000.5"},
	{bits(0.25), "0.25"},
	{bits(0.75), "0.75"},
	{bits(0.125), "0.125"},
	{bits(3.125), "3.125"},
	{bits(0.0625), "0.0625"},
	{bits(10.0625), "10.0625"},
	{bits(1234.0625), "1234.0625"},
	{bits(0.00390625), "0.00390625"},
	{bits(0.1), "0.1000000000000000055511151231257827021181583404541015625"},
	{bits(1 + 1.0/(1<<52)), "1.0000000000000002220446049250313080847263336181640625"},
	{bits(1<<51 + 0.5), "2251799813685248.5"},
	{bits(1<<51 - 0.25), "2251799813685247.75"},
	{bits(1<<52 - 0.5), "4503599627370495.5"}, // the greatest
	{power(1, -63), "0.000000000000000000108420217248550443400745280086994171142578125"},
	{power(1, -64), leastText}, // the least above 0
	{power(3, -64), "0.0000000000000000001626303258728256651011179201304912567138671875"},
	{power(1<<53-1, -63), "0.000976562499999999891579782751449556599254719913005828857421875"},
	{power(1<<53-1, -64), "0.0004882812499999999457898913757247782996273599565029144287109375"},
}

func TestPrint(t *testing.T) {
	for _, c := range texts {
		prints(t, c.bits, c.text)
		prints(t, 1<<63|c.bits, "-"+c.text)
	}
}

func TestPrintOfOthers(t *testing.T) {
	others := []uint64{
		0, bits(1), bits(2), bits(3), bits(10), bits(1000), bits(1 << 52), bits(1<<53 - 1), bits(1 << 53), power(1, 64), power(3, 200),
		power(1, 255), power(1<<53-1, 203), // whole
		power(1, 256), power(1<<53-1, 204), bits(1e300), 0x7FEFFFFFFFFFFFFF, // too great
		power(1, -65), power(3, -65), power(1<<53-1, -65), power(1, -100), bits(1e-300), 0x0010000000000000, 0x000FFFFFFFFFFFFF, 1, // too fine
		infinity, float.NaN, infinity + 1, 0x7FF4000000000000, 0x7FFFFFFFFFFFFFFF,
	}
	for _, b := range others {
		prints(t, b, "")
		prints(t, 1<<63|b, "")
	}
}

func TestPrintJustOfPlainOnes(t *testing.T) {
	for _, b := range scattered(50_000) {
		s, ok := dyad.Print(b)
		if ok != (float.Class(b) == api.FPlain) || ok == (s == "") {
			t.Fatalf("Print(%#x) = %s, %v", b, s, ok)
		}
	}
}

func TestPrintHasAllDigitsAndNoMore(t *testing.T) {
	form := regexp.MustCompile(`^-?(0|[1-9][0-9]*)\.[0-9]*[1-9]$`)
	for _, b := range plain() {
		s, ok := dyad.Print(b)
		if !ok || !form.MatchString(s) || strings.HasPrefix(s, "-") != (b>>63 == 1) {
			t.Fatalf("Print(%#x) = %s, %v", b, s, ok)
		}
		if x := numberOf(b); s != x.FloatString(float.Behind(b)) {
			t.Fatalf("Print(%#x) = %s, not %s", b, s, x.FloatString(float.Behind(b)))
		}
	}
}

// Promise 4.3: Parse of Print is the number.

func TestThereAndBack(t *testing.T) {
	for _, b := range plain() {
		s, _ := dyad.Print(b)
		parses(t, s, floating(b), api.OK)
		parses(t, opposite(s), floating(1<<63^b), api.OK)
		if t.Failed() {
			return
		}
	}
	for _, c := range texts {
		parses(t, c.text, floating(c.bits), api.OK)
	}
}

func TestBackAndThere(t *testing.T) {
	for _, b := range plain() {
		s, _ := dyad.Print(b)
		for _, longer := range []string{s + "0", s + noughts(30), s + "e0", s + "E-0", s + "e+00", moved(s)} {
			v, err := dyad.Parse(longer)
			if back, ok := dyad.Print(v.Bits); err != api.OK || v.Kind != api.KFloat || !ok || back != s {
				t.Fatalf("Print of Parse(%s) = %s, %v", longer, back, ok)
			}
		}
	}
}

// moved is the same number with its point a digit further on, if that leaves one behind it, and a power that brings it back.
func moved(s string) string {
	ahead, behind, _ := strings.Cut(s, ".")
	if len(behind) < 2 {
		return s
	}
	n, _ := new(big.Int).SetString(strings.TrimPrefix(ahead, "-")+behind[:1], 10)
	text := n.String() + "." + behind[1:] + "e-1"
	if ahead[0] == '-' {
		return "-" + text
	}
	return text
}

// numberOf is a finite float's number.
func numberOf(b uint64) *big.Rat {
	field := int64(b >> 52 & (1<<11 - 1))
	digits := b&(1<<52-1) | 1<<52 // plain ones are normal
	x := new(big.Rat).SetInt(new(big.Int).SetUint64(digits))
	unit := new(big.Rat).SetInt(new(big.Int).Lsh(big.NewInt(1), 1075))
	x.Quo(x, unit)
	x.Mul(x, new(big.Rat).SetInt(new(big.Int).Lsh(big.NewInt(1), uint(field))))
	if b>>63 == 1 {
		x.Neg(x)
	}
	return x
}
