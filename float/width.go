package float

import "math"

// A half is laid out like a float of 64 bits, with fewer bits in each part.
const (
	halfSignPlace    = 15
	halfFractionBits = 10
	halfHidden       = 1 << halfFractionBits
	halfFraction     = halfHidden - 1
	halfLastField    = 1<<5 - 1
	halfBias         = 1<<4 - 1
	halfLeast        = 1 - halfBias - halfFractionBits // the power of two of the least half
	halfDropped      = fractionBits - halfFractionBits
)

// What NaNs become.
const (
	singleNaN = 0x7FC00000
	halfNaN   = 0x7E00
)

// Half is promise 3.2's.
func Half(h uint16) uint64 {
	signed := uint64(h>>halfSignPlace) << signPlace
	field, digits := int(h>>halfFractionBits&halfLastField), uint64(h&halfFraction)
	switch {
	case field == halfLastField && digits != 0:
		return NaN
	case field == halfLastField:
		return signed | infinity
	case field == 0:
		return signed | scaled(digits, halfLeast)
	}
	return signed | scaled(halfHidden|digits, field-1+halfLeast)
}

// Single is promise 3.2's.
func Single(s uint32) uint64 {
	return Canon(math.Float64bits(float64(math.Float32frombits(s))))
}

// ToSingle is promise 3.2's.
func ToSingle(bits uint64) (uint32, bool) {
	if isNaN(bits) {
		return singleNaN, true
	}
	s := math.Float32bits(float32(math.Float64frombits(bits)))
	if Single(s) != bits { // what was rounded does not come back
		return 0, false
	}
	return s, true
}

// ToHalf is promise 3.2's.
func ToHalf(bits uint64) (uint16, bool) {
	if isNaN(bits) {
		return halfNaN, true
	}
	h := cutToHalf(bits)
	if Half(h) != bits { // what lost a digit does not come back
		return 0, false
	}
	return h, true
}

// cutToHalf drops the digits that a half has no room for; what is too great becomes infinite.
func cutToHalf(b uint64) uint16 {
	signed := uint16(b>>signPlace) << halfSignPlace
	field := fieldOf(b) - bias + halfBias
	switch {
	case field >= halfLastField:
		return signed | halfLastField<<halfFractionBits
	case field > 0:
		return signed | uint16(field)<<halfFractionBits | uint16(b&fraction>>halfDropped)
	}
	return signed | uint16((hidden|b&fraction)>>(halfDropped+1-field))
}

// scaled is the bits of digits by 2^power, of at most 53 digits, so that their conversion is
// exact, and of a power that leaves the float normal, so that its field alone takes it up.
func scaled(digits uint64, power int) uint64 {
	if digits == 0 {
		return 0
	}
	return math.Float64bits(float64(digits)) + uint64(power)<<fractionBits
}
