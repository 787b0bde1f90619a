package whole_test

import (
	"encoding/binary"
	"math/big"
	"slices"

	"entrepot/api"
	"entrepot/whole"
)

const (
	full    = 1<<64 - 1
	high53  = 1<<64 - 1<<11 // a limb of 53 bits that are 1, ahead of noughts
	high54  = 1<<64 - 1<<10
	topText = "115792089237316195423570985008687907853269984665640564039457584007913129639935"
)

var (
	zero     = api.Int{}
	none     = api.Int{Neg: true} // a sign without a number
	one      = plus(1)
	minusOne = minus(1)
	top      = plus(full, full, full, full)  // 2^256 - 1
	bottom   = minus(full, full, full, full) // its negative
	topExact = plus(0, 0, 0, high53)         // 2^256 - 2^203
)

// plus and minus are the numbers of these limbs, the least one first.
func plus(limbs ...uint64) api.Int {
	var a api.Int
	copy(a.N[:], limbs)
	return a
}

func minus(limbs ...uint64) api.Int {
	a := plus(limbs...)
	a.Neg = true
	return a
}

// pow is 2^k + d.
func pow(k uint, d int64) api.Int {
	x := new(big.Int).Lsh(big.NewInt(1), k)
	a, _ := fromBig(x.Add(x, big.NewInt(d)))
	return a
}

func negated(a api.Int) api.Int {
	b, _ := fromBig(new(big.Int).Neg(toBig(a)))
	return b
}

func toBig(a api.Int) *big.Int {
	var b []byte
	for _, limb := range slices.Backward(a.N[:]) {
		b = binary.BigEndian.AppendUint64(b, limb)
	}
	x := new(big.Int).SetBytes(b)
	if a.Neg {
		x.Neg(x)
	}
	return x
}

// fromBig is what a call should answer for x: 0 and false, if x is no number of the package.
func fromBig(x *big.Int) (api.Int, bool) {
	if x.BitLen() > 256 {
		return api.Int{}, false
	}
	var b [32]byte
	x.FillBytes(b[:])
	a := api.Int{Neg: x.Sign() < 0}
	for i := range a.N {
		a.N[i] = binary.BigEndian.Uint64(b[24-8*i:])
	}
	return a, true
}

// numbers is those near 0, near the powers of two and the exact ones around them, and scattered ones, of either sign.
func numbers() []api.Int {
	var found []*big.Int
	near := func(x *big.Int) {
		for d := int64(-3); d <= 3; d++ {
			found = append(found, new(big.Int).Add(x, big.NewInt(d)))
		}
	}
	near(new(big.Int))
	for k := range uint(257) {
		x := new(big.Int).Lsh(big.NewInt(1), k)
		near(x)
		if k > 53 { // and the last exact ones below, the first above it, the middles between
			step := new(big.Int).Lsh(big.NewInt(1), k-54)
			near(new(big.Int).Sub(x, step))
			near(new(big.Int).Sub(x, new(big.Int).Lsh(step, 1)))
			near(new(big.Int).Add(x, step))
			near(new(big.Int).Add(x, new(big.Int).Lsh(step, 1)))
		}
	}
	for k, x := range scattered(600) {
		found = append(found, x.Rsh(x, uint(k)%256))
	}
	var out []api.Int
	for _, x := range found {
		if a, ok := fromBig(x); ok {
			out = append(out, a, negated(a))
		}
	}
	return out
}

// scattered is n numbers of 256 bits, the same ones at every call.
func scattered(n int) []*big.Int {
	factor, _ := new(big.Int).SetString("6364136223846793005", 10)
	state := big.NewInt(1)
	limit := new(big.Int).Lsh(big.NewInt(1), 256)
	var out []*big.Int
	for range n {
		for range 3 {
			state.Mul(state, factor)
			state.Add(state, big.NewInt(1442695040888963407))
			state.Xor(state, new(big.Int).Rsh(state, 97))
			state.Mod(state, limit)
		}
		out = append(out, new(big.Int).Set(state))
	}
	return out
}

// upAndDown is all calls that answer a number for a number.
func upAndDown() map[string]func(api.Int) (api.Int, bool) {
	return map[string]func(api.Int) (api.Int, bool){
		"Next": whole.Next, "Prev": whole.Prev,
		"ExactUp": whole.ExactUp, "ExactDown": whole.ExactDown,
		"RoughUp": whole.RoughUp, "RoughDown": whole.RoughDown,
	}
}
