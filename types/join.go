package types

import (
	"slices"
	"strings"

	"entrepot/api"
)

// Join is promise 13.3's.
func Join(a, b []api.Type) ([]api.Type, int) {
	var out []api.Type
	for _, t := range a {
		out = append(out, moved(t, 0))
	}
	for _, t := range b {
		out = append(out, moved(t, len(a)))
	}
	return out, len(a)
}

// moved is t by itself, each type's number in it greater by so much.
func moved(t api.Type, by int) api.Type {
	move := func(i int) int {
		if i < 0 { // no type's, so it stays as it is
			return i
		}
		return i + by
	}
	t.Ints, t.Exact, t.Bytes = slices.Clone(t.Ints), slices.Clone(t.Exact), slices.Clone(t.Bytes)
	t.Texts, t.Arrays, t.Maps = slices.Clone(t.Texts), slices.Clone(t.Arrays), slices.Clone(t.Maps)
	for k := range t.Texts {
		t.Texts[k].Res = each(t.Texts[k].Res, strings.Clone)
	}
	for k := range t.Arrays {
		a := &t.Arrays[k]
		a.Prefix, a.Rest = each(a.Prefix, move), move(a.Rest)
	}
	for k := range t.Maps {
		m := &t.Maps[k]
		m.Fields, m.Rest = each(m.Fields, func(f api.Field) api.Field {
			return api.Field{Name: strings.Clone(f.Name), Type: move(f.Type), Must: f.Must}
		}), move(m.Rest)
	}
	return t
}

// each is a new list of what is made of l's.
func each[T any](l []T, made func(T) T) []T {
	var out []T
	for _, x := range l {
		out = append(out, made(x))
	}
	return out
}
