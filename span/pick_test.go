package span_test

import (
	"math/big"
	"testing"

	"entrepot/api"
	"entrepot/span"
)

// Promise 9.2.

type kind struct{ exact, rough bool }

func kinds() []kind { return []kind{{}, {exact: true}, {rough: true}, {true, true}} }

// isFloat is whether a float of 64 bits is just that number.
func isFloat(x *big.Int) bool {
	_, accuracy := new(big.Float).SetInt(x).Float64()
	return accuracy == big.Exact
}

func (k kind) has(x *big.Int) bool { return k.exact && isFloat(x) || k.rough && !isFloat(x) }

func TestPick(t *testing.T) {
	const none = ""
	cases := []struct{ l, exact, rough, both string }{
		{"", none, none, none}, {"9..5", none, none, none}, {"9..-5", none, none, none}, {"max..min", none, none, none}, {"2^60+9..2^60+1", none, none, none}, {"-2^60-1..-2^60-9", none, none, none},
		// inside, 0, at an end
		{"..", "0", "2^53+1", "0"}, {"-5..9", "0", none, "0"}, {"0", "0", none, "0"}, {"0..9", "0", none, "0"}, {"-9..0", "0", none, "0"}, {"0..", "0", "2^53+1", "0"}, {"..0", "0", "-2^53-1", "0"},
		{"3..9", "3", none, "3"}, {"-9..-3", "-3", none, "-3"}, {"5", "5", none, "5"}, {"-5", "-5", none, "-5"}, {"3..", "3", "2^53+1", "3"}, {"..-3", "-3", "-2^53-1", "-3"}, {"..3", "0", "-2^53-1", "0"}, {"-3..", "0", "2^53+1", "0"},
		// of like size, and nearly like
		{"-3 3", "3", none, "3"}, {"3 -3", "3", none, "3"}, {"-3 4", "-3", none, "-3"}, {"4 -3", "-3", none, "-3"}, {"-4 3", "3", none, "3"}, {"3 -4", "3", none, "3"}, {"-9..-3 3..9", "3", none, "3"}, {"3..9 -9..-3", "3", none, "3"}, {"-9..-2 3..9", "-2", none, "-2"}, {"..-3 3..", "3", "2^53+1", "3"}, {"..-2 3..", "-2", "2^53+1", "-2"}, {"3.. ..-3", "3", "2^53+1", "3"},
		{"-2^200 2^200", "2^200", none, "2^200"}, {"2^200 -2^200+1", "2^200", "-2^200+1", "-2^200+1"}, {"-2^200 2^200+1", "-2^200", "2^200+1", "-2^200"}, {"-2^200-1 2^200+1", none, "2^200+1", "2^200+1"}, {"2^200+1 -2^200-1", none, "2^200+1", "2^200+1"},
		{"9 7 5 6 8", "5", none, "5"}, {"-9 -7 -5 -6 -8", "-5", none, "-5"}, {"9..3 20 11..10", "20", none, "20"}, {"9..3 -20", "-20", none, "-20"}, {"9..3 2^53+1", none, "2^53+1", "2^53+1"},
		// the first numbers that no float is
		{"-2^53..2^53", "0", none, "0"}, {"-2^53..2^53+1", "0", "2^53+1", "0"}, {"-2^53-1..2^53", "0", "-2^53-1", "0"}, {"-2^53-1..2^53+1", "0", "2^53+1", "0"}, {"-2^53-3..2^53+3", "0", "2^53+1", "0"},
		{"2^53", "2^53", none, "2^53"}, {"2^53+1", none, "2^53+1", "2^53+1"}, {"2^53+2", "2^53+2", none, "2^53+2"}, {"2^53+3", none, "2^53+3", "2^53+3"}, {"-2^53", "-2^53", none, "-2^53"}, {"-2^53-1", none, "-2^53-1", "-2^53-1"}, {"-2^53-2", "-2^53-2", none, "-2^53-2"},
		{"2^53..2^53+1", "2^53", "2^53+1", "2^53"}, {"2^53+1..2^53+2", "2^53+2", "2^53+1", "2^53+1"}, {"2^53+2..2^53+3", "2^53+2", "2^53+3", "2^53+2"}, {"-2^53-1..-2^53", "-2^53", "-2^53-1", "-2^53"}, {"-2^53-2..-2^53-1", "-2^53-2", "-2^53-1", "-2^53-1"}, {"-2^53-3..-2^53-2", "-2^53-2", "-2^53-3", "-2^53-2"},
		{"2^53+1 -2^53-1", none, "2^53+1", "2^53+1"}, {"-2^53-1 2^53+3", none, "-2^53-1", "-2^53-1"}, {"-2^53-3 2^53+1", none, "2^53+1", "2^53+1"}, {"-2^53-2 2^53+2", "2^53+2", none, "2^53+2"}, {"2^53+1 5 -2^53-1", "5", "2^53+1", "5"}, {"2^53+1 -2^53", "-2^53", "2^53+1", "-2^53"}, {"-2^53-1 2^53+2", "2^53+2", "-2^53-1", "-2^53-1"},
		{"2^54-1..2^54+1", "2^54", "2^54-1", "2^54-1"}, {"2^54..2^54+3", "2^54", "2^54+1", "2^54"}, {"2^54+1..2^54+3", none, "2^54+1", "2^54+1"}, {"2^54+1..2^54+4", "2^54+4", "2^54+1", "2^54+1"}, {"-2^54-3..-2^54-1", none, "-2^54-1", "-2^54-1"}, {"-2^54-4..-2^54-1", "-2^54-4", "-2^54-1", "-2^54-1"},
		// far out: spans between two floats, with one at an end, with one inside
		{"2^100+1..2^101-1", "2^100+281474976710656", "2^100+1", "2^100+1"}, {"2^100+1..2^100+9", none, "2^100+1", "2^100+1"}, {"2^100-9..2^100-1", none, "2^100-9", "2^100-9"}, {"2^100-9..2^100", "2^100", "2^100-9", "2^100-9"}, {"2^100..2^100+9", "2^100", "2^100+1", "2^100"}, {"2^100-9..2^100+9", "2^100", "2^100-9", "2^100-9"}, {"-2^100..-2^100+9", "-2^100", "-2^100+9", "-2^100+9"}, {"-2^100-9..-2^100-1", none, "-2^100-1", "-2^100-1"}, {"-2^100-9..-2^100", "-2^100", "-2^100-1", "-2^100"},
		// at the ends of all
		{"max", none, "max", "max"}, {"min", none, "min", "min"}, {"max..", none, "max", "max"}, {"..min", none, "min", "min"}, {"min max", none, "max", "max"}, {"min max-1", none, "max-1", "max-1"}, {"min+1 max", none, "min+1", "min+1"}, {"2^255..", "2^255", "2^255+1", "2^255"}, {"..-2^255", "-2^255", "-2^255-1", "-2^255"}, {"2^255 ..-2^255", "2^255", "-2^255-1", "2^255"}, {"max-9..", none, "max-9", "max-9"}, {"..min+9", none, "min+9", "min+9"}, {"..min+9 max-9..", none, "max-9", "max-9"}, {"min..max", "0", "2^53+1", "0"},
	}
	for _, c := range cases {
		for k, want := range map[kind]string{{}: none, {exact: true}: c.exact, {rough: true}: c.rough, {true, true}: c.both} {
			a, ok := span.Pick(set(c.l), k.exact, k.rough)
			if want == none {
				if ok || a != (api.Int{}) {
					t.Errorf("Pick(%s, %v) = %v, %v", c.l, k, toBig(a), ok)
				}
			} else if !ok || a != num(want) {
				t.Errorf("Pick(%s, %v) = %v, %v, not %s", c.l, k, toBig(a), ok, want)
			}
		}
	}
}

// The greatest float below 2^256 is 2^256 - 2^203: above it no number is exact.
func TestPickAtTheLastFloat(t *testing.T) {
	x := new(big.Int).Lsh(big.NewInt(1), 256)
	last, _ := fromBig(x.Sub(x, new(big.Int).Lsh(big.NewInt(1), 203)))
	above, _ := fromBig(x.Add(x, big.NewInt(1)))
	for _, neg := range []bool{false, true} {
		last.Neg, above.Neg = neg, neg
		from, behind := api.Span{HasLo: true, Lo: last}, api.Span{HasLo: true, Lo: above}
		if neg {
			from, behind = api.Span{HasHi: true, Hi: last}, api.Span{HasHi: true, Hi: above}
		}
		if a, ok := span.Pick([]api.Span{from}, true, false); !ok || a != last {
			t.Errorf("the last float: %v, %v", a, ok)
		}
		if a, ok := span.Pick([]api.Span{from}, false, true); !ok || a != above {
			t.Errorf("the number behind the last float: %v, %v", a, ok)
		}
		if a, ok := span.Pick([]api.Span{behind}, true, false); ok || a != (api.Int{}) {
			t.Errorf("behind the last float: %v, %v", a, ok)
		}
		if a, ok := span.Pick([]api.Span{behind}, true, true); !ok || a != above {
			t.Errorf("behind the last float, of both kinds: %v, %v", a, ok)
		}
	}
}

func TestPickOfManySpans(t *testing.T) {
	l := append(apart(999, 4001), set("-7..-3")...)
	if a, ok := span.Pick(l, true, true); !ok || a != num("-3") {
		t.Errorf("Pick of 1,000 spans: %v, %v", a, ok)
	}
	if a, ok := span.Pick(l, false, true); ok {
		t.Errorf("Pick of 1,000 spans, none of them rough: %v", a)
	}
}

// smallest is what Pick should answer: of the numbers of the kind that are next to 0, to an end or to a float, the one that is least in size.
func smallest(l []api.Span, k kind) (api.Int, bool) {
	var best *big.Int
	for _, x := range marks(l) {
		for _, side := range []big.RoundingMode{big.ToNegativeInf, big.ToPositiveInf} {
			y, _ := new(big.Float).SetPrec(53).SetMode(side).SetInt(x).Int(nil)
			for _, d := range []int64{-1<<53 - 1, -1, 0, 1, 1<<53 + 1} {
				for _, z := range []*big.Int{x, new(big.Int).Add(x, big.NewInt(d)), new(big.Int).Add(y, big.NewInt(d))} {
					if z.BitLen() <= 256 && k.has(z) && member(l, z) && (best == nil || isNearer(z, best)) {
						best = z
					}
				}
			}
		}
	}
	if best == nil {
		return api.Int{}, false
	}
	return fromBig(best)
}

func isNearer(x, y *big.Int) bool {
	c := x.CmpAbs(y)
	return c < 0 || c == 0 && x.Sign() > 0
}

func TestPickAgainstBig(t *testing.T) {
	s := source{9}
	found := map[kind]int{}
	for range 3000 {
		l := s.spans(4)
		for _, k := range kinds() {
			a, ok := span.Pick(l, k.exact, k.rough)
			if want, wantOK := smallest(l, k); a != want || ok != wantOK {
				t.Fatalf("Pick(%s, %v) = %v, %v, not %v, %v", show(l), k, toBig(a), ok, toBig(want), wantOK)
			}
			if ok {
				found[k]++
			}
			again, okAgain := span.Pick(span.Norm(l), k.exact, k.rough)
			if again != a || okAgain != ok {
				t.Fatalf("Pick(Norm of %s, %v) = %v, %v, not %v, %v", show(l), k, toBig(again), okAgain, toBig(a), ok)
			}
		}
	}
	if found[kind{exact: true}] < 500 || found[kind{rough: true}] < 500 || found[kind{}] != 0 {
		t.Errorf("found: %v", found)
	}
}
