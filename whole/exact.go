package whole

import (
	"entrepot/api"
	"entrepot/nat"
)

// A float of 64 bits has so many digits: each whole number up to lastDense is one, the one behind it is none.
const (
	digitBits = 53
	lastDense = 1 << digitBits
)

// Exact is promise 2.2's.
func Exact(a api.Int) bool {
	return May(a) && nat.Len(a.N)-nat.Trail(a.N) <= digitBits
}

// ExactUp is promise 2.2's.
func ExactUp(a api.Int) (api.Int, bool) {
	switch {
	case !May(a):
		return api.Int{}, false
	case Exact(a):
		return a, true
	}
	over := nat.Len(a.N) - digitBits
	kept := nat.Shr(a.N, over)
	if !a.Neg { // what is cut off is not 0, so that a lies between kept and the next one
		kept, _ = nat.Add(kept, nat.Of(1))
	}
	n, ok := nat.Shl(kept, over)
	return signed(a.Neg, n), ok
}

// ExactDown is promise 2.2's.
func ExactDown(a api.Int) (api.Int, bool) { return downward(ExactUp, a) }

// RoughUp is promise 2.2's.
func RoughUp(a api.Int) (api.Int, bool) {
	switch {
	case !May(a):
		return api.Int{}, false
	case !Exact(a):
		return a, true
	case nat.Cmp(a.N, nat.Of(lastDense)) <= 0:
		return OfUint(lastDense + 1), true
	}
	return Next(a) // beyond lastDense the exact ones are even: one more is odd, and not exact
}

// RoughDown is promise 2.2's.
func RoughDown(a api.Int) (api.Int, bool) { return downward(RoughUp, a) }
