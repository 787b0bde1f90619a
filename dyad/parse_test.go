package dyad_test

import (
	"math/big"
	"strings"
	"testing"

	"entrepot/api"
)

// Promise 4.2: Parse, the values.

func TestParseOfZero(t *testing.T) {
	texts := []string{
		"0", "0.0", "0.000", "0e0", "0E0", "0e+0", "0e-0", "0e5", "0e-5", "0.0e5", "0.00e-5", "0e000", "0e999999999999", "0e-999999999999",
		"0.0e99999999999999999999999999999999", "0E+18446744073709551616", "0e-18446744073709551616", "0." + noughts(397), "0e" + noughts(397), "0e" + strings.Repeat("9", 397),
	}
	for _, s := range texts {
		parses(t, s, plus(), api.OK)
		parses(t, "-"+s, plus(), api.OK)
	}
}

func TestParseOfWholes(t *testing.T) {
	cases := map[string]api.Value{
		"1": plus(1), "7": plus(7), "10": plus(10), "100": plus(100), "1234567890": plus(1234567890),
		"1.0": plus(1), "1.000": plus(1), "10.0": plus(10), "120.00": plus(120),
		"1e0": plus(1), "1E0": plus(1), "1e+0": plus(1), "1e-0": plus(1), "1e2": plus(100), "1E2": plus(100), "1e+2": plus(100), "1E+02": plus(100),
		"12e1": plus(120), "1.5e1": plus(15), "1.50e1": plus(15), "1.50e2": plus(150), "0.05e2": plus(5), "0.1e1": plus(1), "0.001e3": plus(1), "0.0010e4": plus(10),
		"120e-1": plus(12), "1000e-3": plus(1), "1000e-2": plus(10), "10.0e-1": plus(1), "1200.000e-2": plus(12), "2.5e1": plus(25), "0.1e2": plus(10),
		"1e00000000000000000000005": plus(100000), "1e+" + noughts(300) + "5": plus(100000), "100000e-" + noughts(300) + "5": plus(1),
		"9007199254740992": plus(1 << 53), "9007199254740993": plus(1<<53 + 1), "900719925474099.3e1": plus(1<<53 + 1), // no float is
		"9223372036854775807": plus(1<<63 - 1), "9223372036854775808": plus(1 << 63), "18446744073709551615": plus(full), "18446744073709551616": plus(0, 1),
		"1e19": plus(10_000_000_000_000_000_000), "1e20": plus(0x6BC75E2D63100000, 5), "340282366920938463463374607431768211456": plus(0, 0, 1),
		"57896044618658097711785492504343953926634992332820282019728792003956564819968":  plus(0, 0, 0, 1<<63),
		"115792089237316182568066630936765703517573245936339743861833633745570447228928": plus(0, 0, 0, high53),
		"1" + noughts(300) + "e-300": plus(1), "0." + noughts(300) + "1e301": plus(1), "0." + noughts(390) + "5e391": plus(5),
		"-0.0": plus(), "0.5e1": plus(5), "0.50e1": plus(5),
	}
	for s, want := range cases {
		parses(t, s, want, api.OK)
		if want.Int != plus().Int {
			parses(t, opposite(s), minus(want.Int.N[:]...), api.OK)
		}
	}
}

func TestParseAtTheGreatest(t *testing.T) {
	top := [][]string{{topText, beyondText}}
	forms := []func(s string) string{
		func(s string) string { return s + ".0" },
		func(s string) string { return s + "." + noughts(300) },
		func(s string) string { return s + "e0" },
		func(s string) string { return s + noughts(20) + "e-20" },
		func(s string) string { return s + "0.00e-1" },
		func(s string) string { return s[:1] + "." + s[1:] + "e77" },
		func(s string) string { return s[:40] + "." + s[40:] + noughts(9) + "E+38" },
		func(s string) string { return "0." + s + "e78" },
		func(s string) string { return "0." + noughts(100) + s + "e178" },
	}
	for _, form := range forms {
		top = append(top, []string{form(topText), form(beyondText)})
	}
	for _, s := range top {
		parses(t, s[0], plus(full, full, full, full), api.OK)
		parses(t, "-"+s[0], minus(full, full, full, full), api.OK)
		parses(t, s[1], api.Value{}, api.ErrUnrep)
		parses(t, "-"+s[1], api.Value{}, api.ErrUnrep)
	}
}

func TestParseOfFloats(t *testing.T) {
	cases := map[string]uint64{
		"0.5": bits(0.5), "0.50": bits(0.5), "0.5e0": bits(0.5), "5e-1": bits(0.5), "5E-1": bits(0.5), "50e-2": bits(0.5), "0.05e1": bits(0.5), "0.005e2": bits(0.5), "0.0050e+2": bits(0.5),
		"5e-000001": bits(0.5), "5e-" + noughts(300) + "1": bits(0.5), "0.5" + noughts(390): bits(0.5), "5" + noughts(300) + "e-301": bits(0.5), "0." + noughts(300) + "5e300": bits(0.5),
		"0.25": bits(0.25), "25e-2": bits(0.25), "2.5e-1": bits(0.25), "2.5": bits(2.5), "25e-1": bits(2.5), "2.5e0": bits(2.5), "0.25e1": bits(2.5),
		"3.125": bits(3.125), "1234.0625": bits(1234.0625), "12340625e-4": bits(1234.0625), "10.5": bits(10.5), "105e-1": bits(10.5), "1050e-2": bits(10.5),
		"0.1000000000000000055511151231257827021181583404541015625": bits(0.1),
		"4503599627370495.5": bits(1<<52 - 0.5), "45035996273704955e-1": bits(1<<52 - 0.5), "0.45035996273704955e16": bits(1<<52 - 0.5),
		leastText: power(1, -64), leastText + "e1": power(5, -63), finerText + "e1": power(5, -64), // ten times 2^-65 has a bit less behind the point
		"542101086242752217003726400434970855712890625e-64": power(1, -64), "542101086242752217003726400434970855712890625e-63": power(5, -63),
		"1.0000000000000002220446049250313080847263336181640625": bits(1 + 1.0/(1<<52)),
	}
	for s, b := range cases {
		parses(t, s, floating(b), api.OK)
		parses(t, opposite(s), floating(1<<63|b), api.OK)
	}
}

func TestParseOfWhatNoFloatIs(t *testing.T) {
	texts := []string{
		"0.1", "0.2", "0.3", "0.4", "0.6", "0.7", "0.9", "1.1", "1e-1", "0.15", "0.35", "0.01", "0.05", "5e-2", "1e-2", "3.14", "2.675", "0.3333333333333333", "1.7e-1",
		finerText, "-" + finerText, "0.00000000000000000008131516293641283255055896006524562835693359375", // 2^-65 and thrice that
		"0.00024414062499999997289494568786238914981367997825145721435546875", // 53 bits, 65 of them behind the point
		leastText + "e-1", finerText + "e0", finerText + "e-1",
		"4503599627370496.5", "4503599627370497.5", "9007199254740991.5", "9007199254740992.5", "2251799813685248.25", "18446744073709551616.5",
		"0.10000000000000000555111512312578270211815834045410156250001", "0.1000000000000000055511151231257827021181583404541015",
		"1.00000000000000011102230246251565404236316680908203125", // 1 + 2^-53
		topText + ".5", beyondText + ".5", topText + "5e-1", beyondText + "5e-1", beyondText + "e-64", "1" + noughts(300) + ".5", strings.Repeat("5", 300) + "e-300", strings.Repeat("9", 395) + "e-1",
		"1e77777", "1e78", "2e77", "12e76", "1.2e77", "0.12e78", "1e79", "1e100", "1e308", "1e309", "1e1000", "1e9999", "1e10000", "1e10001", "5e-9999", "5e-10000", "5e-10001",
		"1e-64", "1e-300", "5e-324", "1e-1000", "5e-2", "25e-3", "15e-2", "1e-999", "0.5e-1", "0.5e79", "5e-400", "5e-66",
		strings.Repeat("7", 79), strings.Repeat("7", 400), "0." + strings.Repeat("7", 398), "0." + noughts(397) + "5", "1e" + noughts(396) + "78", "1" + noughts(399),
	}
	for _, s := range texts {
		parses(t, s, api.Value{}, api.ErrUnrep)
	}
}

// Exponents that would be small ones again, if they went round.
func TestParseOfFarExponents(t *testing.T) {
	round := []string{
		"128", "256", "32768", "65536", "2147483648", "4294967296", "4294967297", "9223372036854775807", "9223372036854775808", "9223372036854775809",
		"18446744073709551615", "18446744073709551616", "18446744073709551617", "36893488147419103232", "36893488147419103233", "10000000000000000000000000000000000000000", strings.Repeat("9", 390),
	}
	for _, s := range round {
		for _, ahead := range []string{"", "+", "0", "000", "+000", "-", "-0", "-000"} {
			if len(ahead)+len(s) > 393 {
				continue
			}
			for _, digits := range []string{"1", "5", "-5", "0.5", "25", "12.5", "1000"} {
				parses(t, digits+"e"+ahead+s, api.Value{}, api.ErrUnrep)
			}
			parses(t, "0e"+ahead+s, plus(), api.OK)
			parses(t, "-0.0E"+ahead+s, plus(), api.OK)
		}
	}
}

func TestParseAgainstBig(t *testing.T) {
	hold := func(s string) {
		t.Helper()
		x, ok := new(big.Rat).SetString(s)
		if !ok {
			t.Fatal(s)
		}
		want, err := told(x)
		parses(t, s, want, err)
	}
	exponents := []string{"", "e0", "e1", "E-1", "e+2", "e-2", "e5", "e-5", "e20", "e-20", "e60", "e-60", "e-63", "e-64", "e-65", "e77", "e-77", "e78", "e-90", "e150"}
	digits := []string{"0", "1", "5", "25", "75", "125", "1000", "50000", "5000000000", "152587890625", "7450580596923828125", "9007199254740991", "9007199254740993", topText, beyondText}
	for k, x := range scattered(60) {
		digits = append(digits, new(big.Int).SetUint64(x>>(k%64)).String())
	}
	five := big.NewInt(5)
	for k := int64(1); k <= 70; k++ { // what is plain once k digits of it stand behind the point
		n := new(big.Int).Exp(five, big.NewInt(k), nil)
		digits = append(digits, n.String(), n.Mul(n, big.NewInt(1<<53-1)).String(), n.Add(n, five).String())
	}
	for _, d := range digits {
		for _, e := range exponents {
			for _, behind := range []string{"", ".0", ".5", ".25", ".125000", ".1", "." + noughts(20), "." + d} {
				hold(d + behind + e)
				hold("-" + d + behind + e)
			}
			hold("0." + noughts(7) + d + e)
		}
		if t.Failed() {
			return
		}
	}
}

// In each place of the power of ten: what is plain with k digits behind the point.
func TestParseOfFivesAtEachPlace(t *testing.T) {
	for k := 1; k <= 130; k++ {
		fives := new(big.Int).Exp(big.NewInt(5), big.NewInt(int64(k)), nil).String()
		s := fives + "e-" + new(big.Int).SetInt64(int64(k)).String() // 2^-k
		want, err := floating(power(1, -k)), api.OK
		if k > 64 {
			want, err = api.Value{}, api.ErrUnrep
		}
		parses(t, s, want, err)
	}
}
