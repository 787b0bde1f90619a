// Package nat is natural numbers below 2^256: see DOC.md, chapter 1.
package nat

import (
	"cmp"
	"math/bits"

	"entrepot/api"
)

// Of is promise 1.1's.
func Of(v uint64) api.Nat { return api.Nat{v} }

// Low is promise 1.1's.
func Low(a api.Nat) (uint64, bool) {
	if a != Of(a[0]) {
		return 0, false
	}
	return a[0], true
}

// Cmp is promise 1.1's.
func Cmp(a, b api.Nat) int {
	for i := api.Limbs - 1; i >= 0; i-- {
		if a[i] != b[i] {
			return cmp.Compare(a[i], b[i])
		}
	}
	return 0
}

// Add is promise 1.1's.
func Add(a, b api.Nat) (api.Nat, bool) {
	var sum api.Nat
	var carry uint64
	for i := range sum {
		sum[i], carry = bits.Add64(a[i], b[i], carry)
	}
	return ifNothingOver(sum, carry)
}

// Sub is promise 1.1's.
func Sub(a, b api.Nat) (api.Nat, bool) {
	var rest api.Nat
	var borrow uint64
	for i := range rest {
		rest[i], borrow = bits.Sub64(a[i], b[i], borrow)
	}
	return ifNothingOver(rest, borrow)
}

// Mul is promise 1.1's.
func Mul(a api.Nat, m uint64) (api.Nat, bool) {
	var product api.Nat
	var over uint64
	for i := range product {
		high, low := bits.Mul64(a[i], m)
		var carry uint64
		product[i], carry = bits.Add64(low, over, 0)
		over = high + carry // stays a limb: the high one of a product is at most 2^64 - 2
	}
	return ifNothingOver(product, over)
}

// Div is promise 1.1's.
func Div(a api.Nat, d uint64) (api.Nat, uint64, bool) {
	if d == 0 {
		return api.Nat{}, 0, false
	}
	var quotient api.Nat
	var rest uint64
	for i := api.Limbs - 1; i >= 0; i-- {
		quotient[i], rest = bits.Div64(rest, a[i], d)
	}
	return quotient, rest, true
}

// ifNothingOver lets no number out that went round: what is left over tells it.
func ifNothingOver(a api.Nat, over uint64) (api.Nat, bool) {
	if over != 0 {
		return api.Nat{}, false
	}
	return a, true
}
