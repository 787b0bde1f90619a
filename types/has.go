package types

import (
	"slices"
	"strings"

	"entrepot/api"
	"entrepot/float"
	"entrepot/span"
	"entrepot/text"
	"entrepot/value"
	"entrepot/whole"
)

// set is types, by their numbers.
type set [api.MaxTypes]bool

// way is one of the Arrays or Maps of a type, by which a value may be of it: of what type its
// part k must be; none, if that part may not be there.
type way struct {
	of   int
	part func(k int) int
}

// Has is promise 13.2's.
func Has(l []api.Type, i int, v api.Value) bool {
	if May(l) != api.OK || !isNumber(i, len(l)) {
		return false
	}
	var asked set
	asked[i] = true
	return among(l, asked, v)[i]
}

// among is those of the types asked for that v is of. They are asked for all at once, so that
// each part of v is gone over once, however many ways lead to it, and from there on.
func among(l []api.Type, asked set, v api.Value) set {
	var out set
	if isWrong(v) {
		return out
	}
	in, ways := scalar(v), compound(v)
	var open []way
	for i := range l {
		if asked[i] {
			out[i] = in(l[i])
			for _, part := range ways(l[i]) {
				open = append(open, way{of: i, part: part})
			}
		}
	}
	for k := 0; k < len(v.List) && len(open) > 0; k++ {
		open = past(l, open, k, v.List[k])
	}
	for _, w := range open {
		out[w.of] = true
	}
	return out
}

// past is those of the ways whose part k v may be.
func past(l []api.Type, open []way, k int, v api.Value) []way {
	var asked set
	for _, w := range open {
		if i := w.part(k); i != none {
			asked[i] = true
		}
	}
	in := among(l, asked, v)
	return slices.DeleteFunc(open, func(w way) bool {
		i := w.part(k)
		return i == none || !in[i]
	})
}

// scalar tells whether v, without parts, is of a type.
func scalar(v api.Value) func(t api.Type) bool {
	switch v.Kind {
	case api.KNull:
		return func(t api.Type) bool { return t.Null }
	case api.KBool:
		return func(t api.Type) bool { return t.False && v.Bits == 0 || t.True && v.Bits == 1 }
	case api.KInt:
		exact := whole.Exact(v.Int)
		return func(t api.Type) bool { return span.Has(t.Ints, v.Int) || exact && span.Has(t.Exact, v.Int) }
	case api.KFloat:
		class := float.Class(v.Bits)
		return func(t api.Type) bool { return t.Floats&class != 0 }
	case api.KText:
		return func(t api.Type) bool {
			return slices.ContainsFunc(t.Texts, func(x api.Texts) bool { return text.Has(x, v.Text) })
		}
	case api.KBytes:
		return func(t api.Type) bool {
			return slices.ContainsFunc(t.Bytes, func(s api.Size) bool { return isIn(s, len(v.Text)) })
		}
	}
	return func(api.Type) bool { return false }
}

// compound tells the ways by which v may be of a type, as far as its length and its names tell.
func compound(v api.Value) func(t api.Type) []func(k int) int {
	switch v.Kind {
	case api.KArray:
		return func(t api.Type) []func(k int) int { return arrayWays(t.Arrays, len(v.List)) }
	case api.KMap:
		return func(t api.Type) []func(k int) int { return mapWays(t.Maps, v.Keys) }
	}
	return func(api.Type) []func(k int) int { return nil }
}

func arrayWays(l []api.Arr, n int) []func(k int) int {
	var out []func(k int) int
	for _, a := range l {
		if isIn(a.Size, n) && (a.Rest != none || n <= len(a.Prefix)) {
			out = append(out, func(k int) int {
				if k < len(a.Prefix) {
					return a.Prefix[k]
				}
				return a.Rest
			})
		}
	}
	return out
}

func mapWays(l []api.Map, keys []string) []func(k int) int {
	var out []func(k int) int
	for _, m := range l {
		if !lacks(m, keys) {
			out = append(out, func(k int) int {
				at, ok := slices.BinarySearchFunc(m.Fields, keys[k], func(f api.Field, key string) int { return strings.Compare(f.Name, key) })
				if ok {
					return m.Fields[at].Type
				}
				return m.Rest
			})
		}
	}
	return out
}

// lacks is whether a member that must be there is not among those that rise in keys.
func lacks(m api.Map, keys []string) bool {
	return slices.ContainsFunc(m.Fields, func(f api.Field) bool {
		_, ok := slices.BinarySearch(keys, f.Name)
		return f.Must && !ok
	})
}

func isIn(s api.Size, n int) bool {
	return n >= s.Min && (s.Max == endless || n <= s.Max)
}

// isWrong is whether v by itself may not be, otherwise than for its size or its depth: value.May is
// asked of it without what may be too long or too deep, and a text's code points are left to text.Has.
func isWrong(v api.Value) bool {
	rest := v
	switch v.Kind {
	case api.KText, api.KBytes:
		rest.Text = ""
	case api.KArray:
		rest.List = nil
	case api.KMap:
		rest.Keys, rest.List = nil, nil
	}
	return value.May(rest) != api.OK || v.Kind == api.KMap && (len(v.Keys) != len(v.List) || !areNames(v.Keys))
}

// areNames is of names of any length.
func areNames(keys []string) bool {
	valid := api.Texts{Size: allSizes()}
	for k, key := range keys {
		if !text.Has(valid, key) || k > 0 && key <= keys[k-1] {
			return false
		}
	}
	return true
}
