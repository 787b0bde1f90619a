package value

import (
	"cmp"
	"slices"

	"entrepot/api"
	"entrepot/whole"
)

// outline is all of a value that can be compared at once: what its lists hold can't.
type outline struct {
	kind        int
	num         api.Int
	bits        uint64
	text        string
	keys, items int
}

func outlineOf(v api.Value) outline {
	return outline{kind: v.Kind, num: v.Int, bits: v.Bits, text: v.Text, keys: len(v.Keys), items: len(v.List)}
}

// Same is promise 6.2's.
func Same(a, b api.Value) bool {
	return outlineOf(a) == outlineOf(b) && slices.Equal(a.Keys, b.Keys) && slices.EqualFunc(a.List, b.List, Same)
}

// Cmp is promise 6.2's.
func Cmp(a, b api.Value) int {
	if a.Kind != b.Kind {
		return cmp.Compare(a.Kind, b.Kind)
	}
	switch a.Kind {
	case api.KBool, api.KFloat:
		return cmp.Compare(a.Bits, b.Bits)
	case api.KInt:
		return whole.Cmp(a.Int, b.Int)
	case api.KText, api.KBytes:
		return cmp.Compare(a.Text, b.Text)
	case api.KArray:
		return slices.CompareFunc(a.List, b.List, Cmp)
	case api.KMap:
		return cmpMaps(a, b)
	}
	return 0
}

func cmpMaps(a, b api.Value) int {
	if c := cmp.Compare(len(a.Keys), len(b.Keys)); c != 0 {
		return c
	}
	if c := slices.Compare(a.Keys, b.Keys); c != 0 {
		return c
	}
	return slices.CompareFunc(a.List, b.List, Cmp)
}
