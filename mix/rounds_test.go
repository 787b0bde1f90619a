package mix_test

import (
	"testing"

	"entrepot/api"
	"entrepot/mix"
)

// Promises 14.1 and 14.2: types that lead to one another, met and put together.

func TestAndOfRounds(t *testing.T) {
	lists := these(api.Type{Null: true, Arrays: []api.Arr{arr(0, 0, -1)}}, ofArrays(arr(1, 0, 2)))
	meets(t, lists, 0, 1, []api.Value{list(), list(list(), list()), nested(40, list()), list(list(list()), list(list(), list()))}, []api.Value{null, list(null), list(list(), list(), list()), nested(40, null), list(list(list(), list(), list()))})

	chain := func(value int, must string) api.Type {
		return api.Type{Null: true, Maps: []api.Map{maps(-1, "next"+must+" "+"value"+string(rune('0'+value))+"!")}}
	}
	links := these(chain(2, "0!"), chain(3, "1"), api.Type{Ints: spans("..9")}, api.Type{Ints: spans("5.."), True: true})
	link := func(rest, v api.Value) api.Value { return object("next value", rest, v) }
	seven := number("7")
	meets(t, links, 0, 1, []api.Value{null, link(null, seven), link(link(link(null, number("5")), number("9")), seven)}, []api.Value{object(""), object("value", seven), link(null, one), link(null, number("10")), link(link(null, yes), seven), link(link(object("value", seven), seven), seven), link(link(link(null, one), seven), seven)})

	tree := these(api.Type{Ints: spans(".."), Arrays: []api.Arr{arr(-1, 2, 2, 0, 0)}}, api.Type{Ints: spans("1"), Null: true, Arrays: []api.Arr{arr(1, 0, -1)}})
	meets(t, tree, 0, 1, []api.Value{one, list(one, one), list(list(one, one), list(one, list(one, one)))}, []api.Value{null, seven, list(), list(one), list(one, one, one), list(one, null), list(list(one, seven), one), list(list(one, list(one)), one)})

	parity := these( // arrays and maps, one within the other; both ways
		api.Type{Null: true, Arrays: []api.Arr{arr(-1, 1, 1, 1)}}, ofMaps(maps(-1, "m0!")),
		api.Type{Null: true, Arrays: []api.Arr{arr(3, 0, -1)}, Maps: []api.Map{maps(3, "")}}, api.Type{Arrays: []api.Arr{arr(2, 0, -1)}, Maps: []api.Map{maps(2, "")}},
	)
	v := null
	for n := range 20 {
		pairs := map[[2]int]bool{{0, 1}: false, {2, 3}: false, {0, 2}: n%2 == 0, {1, 3}: n%2 == 1, {0, 3}: false, {1, 2}: false}
		for p, want := range pairs {
			in, out := []api.Value{v}, []api.Value(nil)
			if !want {
				in, out = out, in
			}
			meets(t, parity, p[0], p[1], in, out)
		}
		if n%2 == 0 {
			v = member("m", v)
		} else {
			v = list(v)
		}
	}

	never := these(ofArrays(arr(-1, 1, 1, 0)), ofMaps(maps(-1, "a1!")), everything(2)) // of no value, however deep
	meets(t, never, 0, 1, nil, []api.Value{null, list(), nested(5, null), object(""), mapped(5, object(""))})
	meets(t, never, 0, 2, nil, []api.Value{null, list(), nested(5, null), list(list()), nested(50, list())})
}

// What was met or put together is met and put together further.
func TestOfAnswers(t *testing.T) {
	values := append(poolValues(), list(one, one), nested(3, list()), nested(2, one), object("a b", one, list(one)), object("a b", list(), object("a", one)))
	l := these(
		api.Type{Ints: spans("0..5"), Null: true, Arrays: []api.Arr{arr(0, 0, 2)}},
		api.Type{Ints: spans("1..9"), Arrays: []api.Arr{arr(1, 1, -1), arr(-1, 0, 0)}, Maps: []api.Map{maps(1, "a0")}},
		api.Type{Ints: spans(".."), Texts: []api.Texts{texts(0, -1)}, Arrays: []api.Arr{arr(2, 0, -1, 1)}, Maps: []api.Map{maps(2, "b0!")}},
	)
	for _, first := range calls {
		for _, second := range calls {
			for _, third := range calls {
				m, i, e := first.ask(l, 0, 1)
				n, j, f := second.ask(m, i, 2)
				if e != api.OK || f != api.OK {
					t.Fatal(first.name, second.name, e, f)
				}
				follows(t, first, l, 0, 1, values)
				follows(t, second, m, i, 2, values)
				for k := range n {
					follows(t, third, n, j, k, values)
				}
				c, k := mix.Clean(n, j)
				for _, v := range values {
					if has(n, j, v) != has(c, k, v) {
						t.Errorf("%s, %s, Clean: %s", first.name, second.name, brief(v))
					}
				}
			}
		}
	}
}
