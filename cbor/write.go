package cbor

import (
	"cmp"
	"slices"
	"strings"

	"entrepot/api"
	"entrepot/float"
)

// appendValue is of what may be.
func appendValue(b []byte, v api.Value) []byte {
	switch v.Kind {
	case api.KBool:
		return appendShortest(b, simpleType, simpleFalse+v.Bits)
	case api.KInt:
		return appendInt(b, v.Int)
	case api.KFloat:
		return appendFloat(b, v.Bits)
	case api.KText:
		return appendText(b, textType, v.Text)
	case api.KBytes:
		return appendText(b, bytesType, v.Text)
	case api.KArray:
		return appendArray(b, v.List)
	case api.KMap:
		return appendMap(b, v)
	}
	return appendShortest(b, simpleType, simpleNull)
}

func appendFloat(b []byte, bits uint64) []byte {
	if half, ok := float.ToHalf(bits); ok {
		return appendHead(b, head{simpleType, twoBytes, uint64(half)})
	}
	if single, ok := float.ToSingle(bits); ok {
		return appendHead(b, head{simpleType, fourBytes, uint64(single)})
	}
	return appendHead(b, head{simpleType, eightBytes, bits})
}

func appendText(b []byte, major int, s string) []byte {
	return append(appendShortest(b, major, uint64(len(s))), s...)
}

// appendArray stops where the item is too long already, as appendMap does: lists may hold the same
// long text many times, so that all of it may be far more than what is kept.
func appendArray(b []byte, list []api.Value) []byte {
	b = appendShortest(b, arrayType, uint64(len(list)))
	for _, e := range list {
		if len(b) > api.MaxBytes {
			break
		}
		b = appendValue(b, e)
	}
	return b
}

func appendMap(b []byte, v api.Value) []byte {
	b = appendShortest(b, mapType, uint64(len(v.Keys)))
	for _, i := range written(v.Keys) {
		if len(b) > api.MaxBytes {
			break
		}
		b = appendValue(appendText(b, textType, v.Keys[i]), v.List[i])
	}
	return b
}

// written is the places of names in the order of their encoded bytes: a shortest head rises with the
// length that it tells, so that the shorter name comes first.
func written(keys []string) []int {
	places := make([]int, len(keys))
	for i := range places {
		places[i] = i
	}
	slices.SortFunc(places, func(i, j int) int {
		return cmp.Or(cmp.Compare(len(keys[i]), len(keys[j])), strings.Compare(keys[i], keys[j]))
	})
	return places
}
