package nat

import (
	"math/bits"

	"entrepot/api"
)

const (
	limbBits = 64
	natBits  = api.Limbs * limbBits
)

// Len is promise 1.1's.
func Len(a api.Nat) int {
	for i := api.Limbs - 1; i >= 0; i-- {
		if a[i] != 0 {
			return i*limbBits + bits.Len64(a[i])
		}
	}
	return 0
}

// Trail is promise 1.1's.
func Trail(a api.Nat) int {
	for i, limb := range a {
		if limb != 0 {
			return i*limbBits + bits.TrailingZeros64(limb)
		}
	}
	return natBits
}

// Shl is promise 1.1's.
func Shl(a api.Nat, k int) (api.Nat, bool) {
	if k < 0 {
		return api.Nat{}, false
	}
	if a == Of(0) { // however great k is: 0 has no bit that could go over
		return a, true
	}
	if k > natBits-Len(a) { // not k+Len(a), which could go round
		return api.Nat{}, false
	}
	limbs, rest := k/limbBits, uint(k%limbBits)
	var out api.Nat
	for i := range out {
		// with a rest of 0 the lower limb is shifted by all its bits, which leaves nothing of it
		out[i] = limbAt(a, i-limbs)<<rest | limbAt(a, i-limbs-1)>>(limbBits-rest)
	}
	return out, true
}

// Shr is promise 1.1's.
func Shr(a api.Nat, k int) api.Nat {
	k = max(k, 0)
	limbs, rest := k/limbBits, uint(k%limbBits)
	var out api.Nat
	for i := range out {
		out[i] = limbAt(a, i+limbs)>>rest | limbAt(a, i+limbs+1)<<(limbBits-rest)
	}
	return out
}

// Bit is promise 1.1's.
func Bit(a api.Nat, i int) bool {
	if i < 0 || i >= natBits {
		return false
	}
	return a[i/limbBits]>>uint(i%limbBits)&1 == 1
}

// limbAt is 0 beyond both ends: a shift brings noughts in from there.
func limbAt(a api.Nat, i int) uint64 {
	if i < 0 || i >= api.Limbs {
		return 0
	}
	return a[i]
}
