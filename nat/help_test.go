package nat_test

import (
	"math/big"

	"entrepot/api"
)

const full = 1<<64 - 1

var (
	zero    = api.Nat{}
	top     = api.Nat{full, full, full, full} // 2^256 - 1
	two64   = api.Nat{0, 1}
	two128  = api.Nat{0, 0, 1}
	two192  = api.Nat{0, 0, 0, 1}
	two255  = api.Nat{0, 0, 0, 1 << 63}
	beyond  = new(big.Int).Lsh(big.NewInt(1), 256)
	topText = "115792089237316195423570985008687907853269984665640564039457584007913129639935"
)

// edges is numbers at which carries, borrows and limbs end or begin.
func edges() []api.Nat {
	limbs := []uint64{0, 1, 2, 9, 10, 1 << 63, full - 1, full}
	var out []api.Nat
	for _, a := range limbs {
		for _, b := range []uint64{0, 1, full} {
			for _, c := range []uint64{0, full} {
				for _, d := range []uint64{0, 1, 1 << 63, full} {
					out = append(out, api.Nat{a, b, c, d})
				}
			}
		}
	}
	return out
}

// scattered is n numbers of all lengths, the same ones at every call.
func scattered(n int) []api.Nat {
	state := uint64(1)
	next := func() uint64 {
		state += 0x9E3779B97F4A7C15
		x := (state ^ state>>30) * 0xBF58476D1CE4E5B9
		return x ^ x>>27
	}
	var out []api.Nat
	for i := range n {
		var a api.Nat
		for k := 0; k <= i%api.Limbs; k++ {
			a[k] = next() >> (next() % 64)
		}
		out = append(out, a)
	}
	return out
}

func toBig(a api.Nat) *big.Int {
	out := new(big.Int)
	for i := api.Limbs - 1; i >= 0; i-- {
		out.Lsh(out, 64).Or(out, new(big.Int).SetUint64(a[i]))
	}
	return out
}

// fromBig is what a call should answer for b: 0 and false, if b is no number of the package.
func fromBig(b *big.Int) (api.Nat, bool) {
	if b.Sign() < 0 || b.Cmp(beyond) >= 0 {
		return api.Nat{}, false
	}
	var out api.Nat
	limb := new(big.Int)
	for i := range out {
		limb.Rsh(b, uint(64*i))
		out[i] = limb.And(limb, new(big.Int).SetUint64(full)).Uint64()
	}
	return out, true
}
