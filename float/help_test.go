package float_test

import (
	"encoding/binary"
	"math"
	"math/big"
	"slices"

	"entrepot/api"
	"entrepot/float"
)

const (
	minusZero      = 1 << 63
	leastSubnormal = 0x0000000000000001
	topSubnormal   = 0x000FFFFFFFFFFFFF
	leastNormal    = 0x0010000000000000
	topFinite      = 0x7FEFFFFFFFFFFFFF
	infinity       = 0x7FF0000000000000
	minusInfinity  = 0xFFF0000000000000
	topWhole       = 0x4FEFFFFFFFFFFFFF // 2^256 - 2^203
	two256         = 0x4FF0000000000000
	full           = 1<<64 - 1
	high53         = 1<<64 - 1<<11 // a limb of 53 bits that are 1, ahead of noughts
)

var none = api.Int{Neg: true} // a sign without a number

// bits is the float that a number is.
func bits(f float64) uint64 { return math.Float64bits(f) }

// power is m by 2^k.
func power(m float64, k int) uint64 { return bits(math.Ldexp(m, k)) }

// plus and minus are the numbers of these limbs, the least one first.
func plus(limbs ...uint64) api.Int {
	var a api.Int
	copy(a.N[:], limbs)
	return a
}

func minus(limbs ...uint64) api.Int {
	a := plus(limbs...)
	a.Neg = true
	return a
}

// nans is NaNs of either sign, quiet or not, with bits behind or without.
func nans() []uint64 {
	out := []uint64{float.NaN}
	for k := range 52 {
		out = append(out, infinity|1<<k, minusInfinity|1<<k)
	}
	for k := range 52 {
		out = append(out, infinity|(1<<52-1)>>k, minusInfinity|(1<<52-1)>>k)
	}
	return append(out, 0x7FF4000000000002, 0xFFFC00000000BEEF, 0x7FF8000020000000, 0xFFF0000020000000)
}

// fractions is those whose digits end, or change, where a width or a class ends; and scattered ones.
func fractions() []uint64 {
	out := []uint64{0, 1, 2, 3, 1<<52 - 1, 1<<52 - 2, 0x5555555555555, 0xAAAAAAAAAAAAA, 0x8000000000001}
	for k := range 52 {
		out = append(out, 1<<k, 1<<52-1<<k)
	}
	for _, x := range scattered(12) {
		out = append(out, x>>12)
	}
	return out
}

// finite is floats of each power of two, of either sign.
func finite() []uint64 {
	var out []uint64
	for field := range uint64(0x7FF) {
		for _, fraction := range fractions() {
			b := field<<52 | fraction
			out = append(out, b, 1<<63|b)
		}
	}
	return out
}

// all is finite floats, infinities, NaNs and scattered bits.
func all() []uint64 {
	return slices.Concat(finite(), []uint64{infinity, minusInfinity}, nans(), scattered(20000))
}

// singles is singles of each power of two, of either sign, infinities, NaNs, and some of all others.
func singles() []uint32 {
	var out []uint32
	for field := range uint32(1 << 8) {
		for k := range 23 {
			s := field << 23
			out = append(out, s, s|1<<k, s|(1<<23-1<<k), s|(1<<23-1)>>k)
		}
	}
	for _, s := range slices.Clone(out) {
		out = append(out, 1<<31|s)
	}
	for s := uint64(0); s < 1<<32; s += 65521 {
		out = append(out, uint32(s))
	}
	return out
}

// scattered is n words, the same ones at every call.
func scattered(n int) []uint64 {
	state := uint64(1)
	var out []uint64
	for range n {
		state += 0x9E3779B97F4A7C15
		x := state
		x = (x ^ x>>30) * 0xBF58476D1CE4E5B9
		x = (x ^ x>>27) * 0x94D049BB133111EB
		out = append(out, x^x>>31)
	}
	return out
}

// layout is how many bits the parts of a float have.
type layout struct{ field, fraction int }

var (
	halfLayout   = layout{5, 10}
	singleLayout = layout{8, 23}
	doubleLayout = layout{11, 52}
)

// read is what IEEE 754 says of bits laid out like that: of finite ones their number.
func (l layout) read(b uint64) (neg bool, x *big.Rat, class int) {
	neg = b>>(l.field+l.fraction) == 1
	field := int(b >> l.fraction & (1<<l.field - 1))
	digits := b & (1<<l.fraction - 1)
	bias := 1<<(l.field-1) - 1
	switch {
	case field == 1<<l.field-1 && digits != 0:
		return neg, nil, api.FNaN
	case field == 1<<l.field-1 && neg:
		return neg, nil, api.FNeg
	case field == 1<<l.field-1:
		return neg, nil, api.FInf
	case field == 0:
		field = 1
	default:
		digits |= 1 << l.fraction
	}
	x = new(big.Rat).SetInt(new(big.Int).SetUint64(digits))
	shift := field - bias - l.fraction
	unit := new(big.Int).Lsh(big.NewInt(1), uint(max(shift, -shift)))
	if shift < 0 {
		x.Quo(x, new(big.Rat).SetInt(unit))
	} else {
		x.Mul(x, new(big.Rat).SetInt(unit))
	}
	if neg {
		x.Neg(x)
	}
	return neg, x, 0
}

// same is whether wide, of 64 bits, is what b is in that layout.
func (l layout) same(b, wide uint64) bool {
	neg, x, class := l.read(b)
	wideNeg, wideX, wideClass := doubleLayout.read(wide)
	switch {
	case class == api.FNaN:
		return wide == float.NaN
	case x == nil || wideX == nil:
		return class == wideClass
	}
	return neg == wideNeg && x.Cmp(wideX) == 0
}

// has is whether a number is one of that layout: few digits, between its least unit and its greatest power.
func (l layout) has(x *big.Rat) bool {
	bias := 1<<(l.field-1) - 1
	num, places := x.Num(), x.Denom().BitLen()-1
	digits := num.BitLen() - int(num.TrailingZeroBits())
	return digits <= l.fraction+1 && places <= bias-1+l.fraction && num.BitLen()-places <= bias+1
}

// fromBig is x, unless it is 2^256 or more in size.
func fromBig(x *big.Int) (api.Int, bool) {
	if x.BitLen() > 256 {
		return api.Int{}, false
	}
	var b [32]byte
	x.FillBytes(b[:])
	a := api.Int{Neg: x.Sign() < 0}
	for i := range a.N {
		a.N[i] = binary.BigEndian.Uint64(b[24-8*i:])
	}
	return a, true
}
