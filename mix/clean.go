package mix

import (
	"entrepot/api"
	"entrepot/types"
)

// Clean is promise 14.1's.
func Clean(l []api.Type, i int) ([]api.Type, int) {
	if !areTypes(l, i) {
		return nil, 0
	}
	order := []int{i}
	places := map[int]int{i: 0}
	place := func(i int) int {
		at, ok := places[i]
		if !ok {
			at = len(order)
			places[i], order = at, append(order, i)
		}
		return at
	}
	own, _ := types.Join(l, nil) // so that numbers can be changed where they stand
	var out []api.Type
	for k := 0; k < len(order); k++ {
		t := own[order[k]]
		renumber(t, place)
		out = append(out, t)
	}
	return out, 0
}

// renumber puts the new number of each type that t leads to in place of the old one. They are
// asked for in the order in which promise 14.1 names them.
func renumber(t api.Type, place func(i int) int) {
	for k := range t.Arrays {
		a := &t.Arrays[k]
		for n, i := range a.Prefix {
			a.Prefix[n] = place(i)
		}
		a.Rest = ofRest(a.Rest, place)
	}
	for k := range t.Maps {
		m := &t.Maps[k]
		for n, f := range m.Fields {
			m.Fields[n].Type = place(f.Type)
		}
		m.Rest = ofRest(m.Rest, place)
	}
}

func ofRest(i int, place func(i int) int) int {
	if i == none {
		return none
	}
	return place(i)
}
