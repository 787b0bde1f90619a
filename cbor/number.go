package cbor

import (
	"strings"

	"entrepot/api"
	"entrepot/nat"
)

// Tags of great numbers.
const (
	positiveTag = 2
	negativeTag = 3
)

const (
	limbBytes = 8
	natBytes  = api.Limbs * limbBytes
)

// tagged is v with a tag ahead of it.
func (r *reader) tagged(tag uint64, v api.Value) api.Value {
	if v.Kind != api.KBytes || tag != positiveTag && tag != negativeTag {
		return r.lost()
	}
	n, ok := natOf(v.Text)
	if !ok {
		return r.lost()
	}
	if tag == positiveTag {
		return r.number(api.Int{N: n}, true)
	}
	return r.number(below(n))
}

func (r *reader) number(a api.Int, ok bool) api.Value {
	if !ok {
		return r.lost()
	}
	return api.Value{Kind: api.KInt, Int: a}
}

// below is -1 - n; false, if that is -2^256.
func below(n api.Nat) (api.Int, bool) {
	size, ok := nat.Add(n, nat.Of(1))
	return api.Int{Neg: ok, N: size}, ok
}

// natOf is the number of such bytes, the greatest first.
func natOf(s string) (api.Nat, bool) {
	var n api.Nat
	s = strings.TrimLeft(s, "\x00")
	if len(s) > natBytes {
		return n, false
	}
	for i := range len(s) {
		limb, bit := place(len(s) - 1 - i)
		n[limb] |= uint64(s[i]) << bit
	}
	return n, true
}

// place is where a number's byte stands, counted from the least one on.
func place(at int) (limb, bit int) { return at / limbBytes, 8 * (at % limbBytes) }

func appendInt(b []byte, a api.Int) []byte {
	if a.Neg {
		n, _ := nat.Sub(a.N, nat.Of(1)) // what is below 0 is at least 1 in size
		return appendNat(b, negativeType, negativeTag, n)
	}
	return appendNat(b, unsignedType, positiveTag, a.N)
}

func appendNat(b []byte, major int, tag uint64, n api.Nat) []byte {
	if low, ok := nat.Low(n); ok {
		return appendShortest(b, major, low)
	}
	size := (nat.Len(n) + 7) / 8
	b = appendShortest(b, tagType, tag)
	b = appendShortest(b, bytesType, uint64(size))
	for at := size - 1; at >= 0; at-- {
		limb, bit := place(at)
		b = append(b, byte(n[limb]>>bit))
	}
	return b
}
