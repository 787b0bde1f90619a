package types

import (
	"slices"

	"entrepot/api"
	"entrepot/span"
	"entrepot/text"
	"entrepot/value"
)

const (
	maxParts  = 20 // of Texts, of Bytes, of Arrays, of Maps
	maxPrefix = 8
	maxFields = 50
	maxBytes  = 4_096
	maxLength = 1_000
)

// May is promise 13.1's.
func May(l []api.Type) int {
	switch {
	case len(l) > api.MaxTypes || slices.ContainsFunc(l, isOverfull):
		return api.ErrLimit
	case slices.ContainsFunc(l, func(t api.Type) bool { return !mayScalars(t) || !mayParts(t, len(l)) }):
		return api.ErrArg
	}
	return api.OK
}

func isOverfull(t api.Type) bool {
	return max(len(t.Texts), len(t.Bytes), len(t.Arrays), len(t.Maps)) > maxParts ||
		slices.ContainsFunc(t.Arrays, func(a api.Arr) bool { return len(a.Prefix) > maxPrefix }) ||
		slices.ContainsFunc(t.Maps, func(m api.Map) bool { return len(m.Fields) > maxFields })
}

func mayScalars(t api.Type) bool {
	return span.May(t.Ints) && span.May(t.Exact) && t.Floats&^api.FAll == 0 &&
		!slices.ContainsFunc(t.Texts, func(x api.Texts) bool { return !text.May(x) }) &&
		!slices.ContainsFunc(t.Bytes, func(s api.Size) bool { return !maySize(s, maxBytes) })
}

func maySize(s api.Size, most int) bool {
	return s.Min >= 0 && s.Min <= most && s.Max >= endless && s.Max <= most
}

// mayParts is of one of n types.
func mayParts(t api.Type, n int) bool {
	return !slices.ContainsFunc(t.Arrays, func(a api.Arr) bool { return !mayArray(a, n) }) &&
		!slices.ContainsFunc(t.Maps, func(m api.Map) bool { return !mayMap(m, n) })
}

func mayArray(a api.Arr, n int) bool {
	return maySize(a.Size, maxLength) && mayRest(a.Rest, n) &&
		!slices.ContainsFunc(a.Prefix, func(i int) bool { return !isNumber(i, n) })
}

func mayMap(m api.Map, n int) bool {
	for k, f := range m.Fields {
		if !isNumber(f.Type, n) || !isName(f.Name) || k > 0 && f.Name <= m.Fields[k-1].Name {
			return false
		}
	}
	return mayRest(m.Rest, n)
}

func mayRest(i, n int) bool { return i == none || isNumber(i, n) }

// isNumber is whether i is the number of one of n types.
func isNumber(i, n int) bool { return i >= 0 && i < n }

// isName is whether a member may have that name: a text that is a value is valid, and not too long.
func isName(s string) bool {
	return value.May(api.Value{Kind: api.KText, Text: s}) == api.OK
}
