package value

import (
	"slices"

	"entrepot/api"
	"entrepot/float"
	"entrepot/utf"
	"entrepot/whole"
)

const maxNodes = 10_000

// May is promise 6.1's.
func May(v api.Value) int {
	switch {
	case deeper(v, api.MaxDepth):
		return api.ErrDepth
	case left(v, maxNodes) < 0 || has(v, overfull):
		return api.ErrLimit
	case has(v, wrong):
		return api.ErrArg
	}
	return api.OK
}

// deeper is whether Depth is above n. It goes no further down than that: lists may hold the same
// list many times, so that what is deep may be far more than what is kept.
func deeper(v api.Value, n int) bool {
	return n == 0 || slices.ContainsFunc(v.List, func(e api.Value) bool { return deeper(e, n-1) })
}

// left is how many of n nodes v leaves; it stops below 0, as soon as there are too few.
func left(v api.Value, n int) int {
	n--
	for _, e := range v.List {
		if n < 0 {
			break
		}
		n = left(e, n)
	}
	return n
}

// overfull is of v by itself, whatever else may not be in it.
func overfull(v api.Value) bool {
	switch v.Kind {
	case api.KText, api.KBytes:
		return isLong(v.Text)
	case api.KArray:
		return len(v.List) > api.MaxItems
	case api.KMap:
		return max(len(v.Keys), len(v.List)) > api.MaxItems || slices.ContainsFunc(v.Keys, isLong)
	}
	return false
}

func isLong(text string) bool { return len(text) > api.MaxText }

// wrong is of v by itself: that it is of no kind, or has a part that its kind does not let be.
func wrong(v api.Value) bool {
	if outlineOf(v) != outlineOf(bare(v)) {
		return true
	}
	switch v.Kind {
	case api.KNull, api.KBytes, api.KArray:
		return false
	case api.KBool:
		return v.Bits > 1
	case api.KInt:
		return !whole.May(v.Int)
	case api.KFloat:
		return !float.May(v.Bits)
	case api.KText:
		return !utf.Valid(v.Text)
	case api.KMap:
		return len(v.Keys) != len(v.List) || !areNames(v.Keys)
	}
	return true
}

// bare is v with those parts alone that its kind names.
func bare(v api.Value) api.Value {
	b := api.Value{Kind: v.Kind}
	switch v.Kind {
	case api.KBool, api.KFloat:
		b.Bits = v.Bits
	case api.KInt:
		b.Int = v.Int
	case api.KText, api.KBytes:
		b.Text = v.Text
	case api.KArray:
		b.List = v.List
	case api.KMap:
		b.Keys, b.List = v.Keys, v.List
	}
	return b
}

func areNames(keys []string) bool {
	for i, key := range keys {
		if !utf.Valid(key) || i > 0 && key <= keys[i-1] {
			return false
		}
	}
	return true
}
