package dyad_test

import (
	"encoding/binary"
	"math"
	"math/big"
	"reflect"
	"strconv"
	"strings"
	"testing"

	"entrepot/api"
	"entrepot/dyad"
)

const (
	full     = 1<<64 - 1
	high53   = 1<<64 - 1<<11 // a limb of 53 bits that are 1, ahead of noughts
	infinity = 0x7FF0000000000000

	topText    = "115792089237316195423570985008687907853269984665640564039457584007913129639935" // 2^256 - 1
	beyondText = "115792089237316195423570985008687907853269984665640564039457584007913129639936" // 2^256

	leastText = "0.0000000000000000000542101086242752217003726400434970855712890625"  // 2^-64
	finerText = "0.00000000000000000002710505431213761085018632002174854278564453125" // 2^-65
)

// bits is the float that a number is.
func bits(f float64) uint64 { return math.Float64bits(f) }

// power is m by 2^k.
func power(m float64, k int) uint64 { return bits(math.Ldexp(m, k)) }

// noughts is n of them.
func noughts(n int) string { return strings.Repeat("0", n) }

// plus and minus are the whole numbers of these limbs, the least one first.
func plus(limbs ...uint64) api.Value {
	v := api.Value{Kind: api.KInt}
	copy(v.Int.N[:], limbs)
	return v
}

func minus(limbs ...uint64) api.Value {
	v := plus(limbs...)
	v.Int.Neg = true
	return v
}

// floating is the value of a float.
func floating(bits uint64) api.Value { return api.Value{Kind: api.KFloat, Bits: bits} }

// brief is a text that fits into a report.
func brief(s string) string {
	if len(s) > 100 {
		return strconv.Quote(s[:60]) + ".." + strconv.Quote(s[len(s)-30:]) + " of " + strconv.Itoa(len(s)) + " bytes"
	}
	return strconv.Quote(s)
}

// parses holds Parse(s) against a value, in all its parts, and an error.
func parses(t *testing.T, s string, want api.Value, wantErr int) {
	t.Helper()
	v, err := dyad.Parse(s)
	if !reflect.DeepEqual(v, want) || err != wantErr {
		t.Errorf("Parse(%s) = %v, %d, not %v, %d", brief(s), v, err, want, wantErr)
	}
}

// prints holds Print(b) against a text; "" where there is none.
func prints(t *testing.T, b uint64, want string) {
	t.Helper()
	s, ok := dyad.Print(b)
	if s != want || ok != (want != "") {
		t.Errorf("Print(%#x) = %s, %v, not %s", b, s, ok, want)
	}
}

// opposite is a number's negative, as it is written.
func opposite(s string) string {
	if rest, ok := strings.CutPrefix(s, "-"); ok {
		return rest
	}
	return "-" + s
}

// told is what 4.2 says of a number that math/big has.
func told(x *big.Rat) (api.Value, int) {
	places := x.Denom().BitLen() - 1
	halves := x.Denom().TrailingZeroBits() == uint(places)
	switch {
	case x.IsInt() && x.Num().BitLen() <= 256:
		return ofBig(x.Num()), api.OK
	case x.IsInt() || !halves || places > 64 || x.Num().BitLen() > 53:
		return api.Value{}, api.ErrUnrep
	}
	f, _ := x.Float64()
	return floating(bits(f)), api.OK
}

func ofBig(x *big.Int) api.Value {
	var b [32]byte
	x.FillBytes(b[:])
	v := api.Value{Kind: api.KInt}
	v.Int.Neg = x.Sign() < 0
	for i := range v.Int.N {
		v.Int.N[i] = binary.BigEndian.Uint64(b[24-8*i:])
	}
	return v
}

// plain is floats of Class FPlain of each length and each number of bits behind the point, of either sign.
func plain() []uint64 {
	var out []uint64
	add := func(digits uint64, places int) {
		b := power(float64(digits), -places)
		out = append(out, b, 1<<63|b)
	}
	for places := 1; places <= 64; places++ {
		for length := 1; length <= 53; length++ {
			low, odd := uint64(1)<<(length-1), uint64(1)
			add(low|odd, places)
			add(low|(low-1)|odd, places)
			add(low|low>>1|odd, places)
		}
		for _, x := range scattered(40) {
			add(x>>11|1, places)
			add(x>>(11+x%53)|1, places)
		}
	}
	return out
}

// scattered is n words, the same ones at every call.
func scattered(n int) []uint64 {
	state := uint64(1)
	var out []uint64
	for range n {
		state += 0x9E3779B97F4A7C15
		x := state
		x = (x ^ x>>30) * 0xBF58476D1CE4E5B9
		x = (x ^ x>>27) * 0x94D049BB133111EB
		out = append(out, x^x>>31)
	}
	return out
}
