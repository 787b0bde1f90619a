package types_test

import (
	"slices"
	"strings"
	"testing"
	"time"

	"entrepot/api"
)

// Promise 13.2: arrays and maps, and types that lead to one another.

// letters is types that are told apart: 0 of null, 1 of bools, 2 of whole numbers, 3 of all that is null or a text; the one to be tested stands behind.
func letters(t api.Type) []api.Type {
	return these(api.Type{Null: true}, api.Type{False: true, True: true}, api.Type{Ints: spans("..")}, api.Type{Null: true, Texts: []api.Texts{texts(0, -1)}}, t)
}

// row is an array by letters: n null, b a bool, i a whole number, t a text, f a float.
func row(s string) api.Value {
	out := list()
	for _, c := range s {
		out.List = append(out.List, map[rune]api.Value{'n': null, 'b': yes, 'i': one, 't': word("a"), 'f': half}[c])
	}
	return out
}

func rows(s string) []api.Value {
	out := []api.Value{}
	for _, x := range strings.Fields(s) {
		out = append(out, row(strings.Trim(x, "-"))) // - alone is the one without elements
	}
	return out
}

func TestHasOfArrays(t *testing.T) {
	for _, c := range []struct {
		arrays  []api.Arr
		in, out string
	}{
		{nil, "", "- n i nn"},
		{[]api.Arr{arr(-1, 0, -1)}, "-", "n i nn"},
		{[]api.Arr{arr(0, 0, -1)}, "- n nn nnnnn", "b i t nb bn nnnt"},
		{[]api.Arr{arr(-1, 0, -1, 0, 1, 2)}, "- n nb nbi", "b ni nn nbb nbin nbii i t"},               // shorter than the Prefix, as long, longer
		{[]api.Arr{arr(3, 0, -1, 0, 1, 2)}, "- n nb nbi nbit nbin nbittnt", "i nbii nbitb nbtt bnit"}, // longer by Rest
		{[]api.Arr{arr(2, 0, -1, 2, 2)}, "- i ii iii iiiii", "n in iin iiin"},
		{[]api.Arr{arr(0, 0, -1, 3)}, "- n t tn nn tnn", "tt nt i"},
		{[]api.Arr{arr(0, 2, -1)}, "nn nnn nnnn", "- n nb"},
		{[]api.Arr{arr(0, 0, 2)}, "- n nn", "nnn nnnn b"},
		{[]api.Arr{arr(0, 2, 3)}, "nn nnn", "- n nnnn nb"},
		{[]api.Arr{arr(0, 0, 0)}, "-", "n nn"},
		{[]api.Arr{arr(0, 3, 2)}, "", "- n nn nnn nnnn"},
		{[]api.Arr{arr(-1, 0, 2, 0, 0, 0)}, "- n nn", "nnn nnnn"}, // Size ends within the Prefix
		{[]api.Arr{arr(-1, 2, 5, 0, 0, 0)}, "nn nnn", "- n nnnn nnnnn"},
		{[]api.Arr{arr(-1, 4, -1, 0, 0, 0)}, "", "- n nn nnn nnnn"},
		{[]api.Arr{arr(2, 3, 4, 0)}, "nii niii", "- n ni niiii iii nin"},
		{[]api.Arr{arr(0, 0, -1), arr(2, 0, -1)}, "- n nn i ii iiii", "in ni nni iin b t"}, // no array is let be by two halves
		{[]api.Arr{arr(-1, 1, 1, 0), arr(-1, 1, 1, 2), arr(-1, 2, 2, 0, 2)}, "n i ni", "- in nn ii nin"},
		{[]api.Arr{arr(0, 3, 3), arr(0, 1, 1), arr(2, 1, 2)}, "nnn n i ii", "- nn iii ni"},
		{[]api.Arr{arr(-1, 0, -1, 3, 0), arr(-1, 0, -1, 0, 3)}, "- n t tn nt nn", "tt nnn"},
		{[]api.Arr{arr(0, 2, 1), arr(1, 2, 2)}, "bb bb", "- n nn b nb"},
		{[]api.Arr{arr(-1, 0, -1, 0, 1, 2, 3, 0, 1, 2, 3)}, "- n nb nbi nbit nbitn nbitnb nbitnbi nbitnbit nbinnbin", "nbitnbitn nbitnbii nbitnbnt"},
	} {
		lets(t, letters(ofArrays(c.arrays...)), 4, rows(c.in), rows(c.out))
		lets(t, letters(ofArrays(c.arrays...)), 4, nil, []api.Value{null, one, word(""), raw(""), object(""), object("a", null)})
		slices.Reverse(c.arrays)
		lets(t, letters(ofArrays(c.arrays...)), 4, rows(c.in), rows(c.out))
	}
}

// An array of several Arrays of which one lets it be, wherever it stands among them.
func TestHasOfOneOfTheArrays(t *testing.T) {
	for n := range 20 {
		for at := range n + 1 {
			l := letters(ofArrays(slices.Insert(copies(n, arr(2, 1, -1)), at, arr(1, 2, 2, 0))...))
			lets(t, l, 4, rows("nb"), rows("- n nn b bb nbb ni"))
			has(t, l, 4, row("ii"), n > 0)
		}
	}
}

// Each place in an array is asked.
func TestHasOfEachPlace(t *testing.T) {
	for n := range 30 {
		for at := range n {
			v := list(copies(n, null)...)
			v.List[at] = one
			for prefix := range 9 {
				l := letters(ofArrays(arr(0, 0, -1, copies(prefix, 0)...)))
				has(t, l, 4, v, false)
				has(t, l, 4, list(copies(n, null)...), true)
				if at < prefix {
					l[4].Arrays[0].Prefix[at] = 2
					has(t, l, 4, v, true)
				}
			}
			has(t, letters(ofArrays(arr(2, 0, -1, copies(8, 0)...))), 4, v, at == 8 && n == 9)
		}
	}
}

// record is a map by letters, as row, of the names a, b, c ..; a dot is a name that is not there.
func record(s string) api.Value {
	out := api.Value{Kind: api.KMap}
	for i, c := range s {
		if c != '.' {
			out.Keys = append(out.Keys, string(rune('a'+i)))
			out.List = append(out.List, row(string(c)).List[0])
		}
	}
	return out
}

func records(s string) []api.Value {
	out := []api.Value{}
	for _, x := range strings.Fields(s) {
		out = append(out, record(x))
	}
	return out
}

func TestHasOfMaps(t *testing.T) {
	for _, c := range []struct {
		maps    []api.Map
		in, out string
	}{
		{nil, "", ". n i"},
		{[]api.Map{maps(-1, "")}, ".", "n .n nn i"},
		{[]api.Map{maps(0, "")}, ". n .n nn ..n nnn", "i ni in nin t"},
		{[]api.Map{maps(-1, "a0")}, ". n", "i .n nn n.n t"},
		{[]api.Map{maps(-1, "a0!")}, "n", ". i .n nn"},
		{[]api.Map{maps(-1, "a0 b2")}, ". n .i ni", "i .n nn in ..n n.n nin"},
		{[]api.Map{maps(-1, "a0! b2")}, "n ni", ". .i i in nin"},
		{[]api.Map{maps(-1, "a0 b2!")}, ".i ni", ". n in nin"},
		{[]api.Map{maps(-1, "a0! b2!")}, "ni", ". n .i in nin"},
		{[]api.Map{maps(1, "b2!")}, ".i bi .ib bib", ". b ii .b b.b ni .ii .in bb"},   // others by Rest, ahead and behind
		{[]api.Map{maps(2, "b0")}, ". i .n in ini i.i .ni ..i", ".i ii nn iin inn n"}, // what a Field names is not asked by Rest
		{[]api.Map{maps(3, "b3 d3!")}, "...t tttt n..n tntnt ...n", ". t ttt ttt.t ...i ittt"},
		{[]api.Map{maps(-1, "a0"), maps(-1, "a2")}, ". n i", "b ni"},
		{[]api.Map{maps(-1, "a0! b0!"), maps(-1, "a2! b2!")}, "nn ii", ". n i ni in"}, // no map is let be by two halves
		{[]api.Map{maps(0, "a2!"), maps(2, "a0!")}, "i n in inn ni nii", ". nn ii ini b"},
		{[]api.Map{maps(-1, "a0!"), maps(-1, "b0!"), maps(1, "c0!")}, "n .n ..n b.n bbn", ". nn n.n .i bb"},
	} {
		lets(t, letters(ofMaps(c.maps...)), 4, records(c.in), records(c.out))
		lets(t, letters(ofMaps(c.maps...)), 4, nil, []api.Value{null, one, word(""), word("a"), raw(""), list(), list(null)})
		slices.Reverse(c.maps)
		lets(t, letters(ofMaps(c.maps...)), 4, records(c.in), records(c.out))
	}
}

// A map of several Maps of which one lets it be, wherever it stands among them.
func TestHasOfOneOfTheMaps(t *testing.T) {
	for n := range 20 {
		for at := range n + 1 {
			l := letters(ofMaps(slices.Insert(copies(n, maps(2, "a2!")), at, maps(1, "a0! b1"))...))
			lets(t, l, 4, records("n nb n.b nbb"), records(". b .b nn ni bb in"))
			has(t, l, 4, record("ii"), n > 0)
		}
	}
}

// Names are held against one another whole.
func TestHasOfNames(t *testing.T) {
	m := api.Map{Rest: 2}
	for _, name := range []string{"", "a", "ab", "b", "é", "𝄞"} {
		m.Fields = append(m.Fields, api.Field{Name: name, Type: 0})
	}
	l := letters(ofMaps(m))
	for _, name := range []string{"", "a", "ab", "b", "é", "𝄞"} {
		has(t, l, 4, member(name, null), true)
		has(t, l, 4, member(name, one), false)
	}
	for _, name := range []string{"\x00", "A", "aa", "abc", "a\x00", "ba", "e\u0301", "ê", "𝄟", " a", strings.Repeat("a", 4096)} {
		has(t, l, 4, member(name, null), false)
		has(t, l, 4, member(name, one), true)
	}
}

// Each of 50 Fields is asked, and each that must be there is missed.
func TestHasOfManyFields(t *testing.T) {
	keys := names(60)
	for at := range 50 {
		m := api.Map{Rest: 2}
		for k := range 50 {
			m.Fields = append(m.Fields, api.Field{Name: keys[k], Type: 0, Must: true})
		}
		l := letters(ofMaps(m))
		v := api.Value{Kind: api.KMap, Keys: slices.Clone(keys), List: append(copies(50, null), copies(10, one)...)}
		has(t, l, 4, v, true)
		v.List[at] = one
		has(t, l, 4, v, false)
		v.List[at], v.List[50+at%10] = null, null
		has(t, l, 4, v, false)
		v.List[50+at%10] = one
		v.Keys, v.List = slices.Delete(v.Keys, at, at+1), slices.Delete(v.List, at, at+1)
		has(t, l, 4, v, false)
		m.Fields[at].Must = false
		has(t, letters(ofMaps(m)), 4, v, true)
	}
}

// Types that lead to one another: trees, lists, lengths that are even and odd.
func TestHasOfRounds(t *testing.T) {
	tree := these(api.Type{Ints: spans(".."), Arrays: []api.Arr{arr(-1, 2, 2, 0, 0)}})
	lets(t, tree, 0, []api.Value{one, list(one, one), list(list(one, one), one), list(list(one, list(one, one)), list(one, one))}, []api.Value{null, list(), list(one), list(one, one, one), list(list(one), one), list(list(one, list(one, null)), one), list(one, list(one, list(one, list(one))))})
	chain := these(api.Type{Null: true, Maps: []api.Map{maps(-1, "next0! value1!")}}, api.Type{Ints: spans("..")})
	link := func(rest, v api.Value) api.Value { return object("next value", rest, v) }
	lets(t, chain, 0, []api.Value{null, link(null, one), link(link(link(null, one), number("7")), one)}, []api.Value{one, object(""), object("value", one), link(one, one), link(link(link(null, one), half), one), link(link(object("next", null), one), one)})
	parity := these(api.Type{Null: true, Arrays: []api.Arr{arr(-1, 1, 1, 1)}}, api.Type{Maps: []api.Map{maps(-1, "m0!")}})
	v := null
	for n := range 40 {
		has(t, parity, 0, v, n%2 == 0)
		has(t, parity, 1, v, n%2 == 1)
		if n%2 == 0 {
			v = member("m", v)
		} else {
			v = list(v)
		}
	}
	never := these(ofArrays(arr(-1, 1, 1, 0)), ofMaps(maps(-1, "a1!"))) // of no value, however deep
	for _, v := range []api.Value{null, list(), nested(5, null), nested(500, list()), object(""), mapped(5, object(""))} {
		has(t, never, 0, v, false)
		has(t, never, 1, v, false)
	}
}

// deadline ends a test that would go on for ages.
func deadline(t *testing.T, asked func()) {
	t.Helper()
	done := make(chan bool)
	go func() { asked(); close(done) }()
	select {
	case <-done:
	case <-time.After(time.Minute):
		t.Fatal("no end")
	}
}

// Where each of many ways leads on to all the others, no part of a value is gone over as often as there are ways to it.
func TestHasOfManyWays(t *testing.T) {
	deadline(t, func() {
		l := make([]api.Type, 20)
		for i := range l {
			for k := range l {
				l[i].Arrays = append(l[i].Arrays, arr(k, 0, -1, (i+k)%20, k))
				l[i].Maps = append(l[i].Maps, maps(k, "m"+string(rune('0'+k%10))))
			}
		}
		l[7].True = true
		for _, depth := range []int{1, 2, 16, 60} {
			for _, v := range []api.Value{nested(depth, yes), mapped(depth, yes), nested(depth, list(yes, yes))} {
				has(t, l, 3, v, true)
			}
			for _, v := range []api.Value{nested(depth, no), mapped(depth, no), nested(depth, list(yes, yes, no)), mapped(depth, object("a b", yes, null))} {
				has(t, l, 3, v, false)
			}
		}
		all := copies(200, everything(0))
		for i := range all {
			all[i].Arrays, all[i].Maps = nil, nil
			for k := range 20 {
				all[i].Arrays = append(all[i].Arrays, arr((i*7+k*13)%200, 0, -1))
				all[i].Maps = append(all[i].Maps, maps((i*11+k*17)%200, ""))
			}
		}
		has(t, all, 0, nested(40, object("a b c", one, list(one, half), mapped(30, null))), true)
		has(t, all, 0, nested(40, object("a b c", one, list(one, half), mapped(30, boolean(2)))), false)
	})
}

// So deep as what is handed in may be.
func TestHasOfTheDeepest(t *testing.T) {
	l := these(everything(0), ofArrays(arr(1, 0, -1)), ofMaps(maps(2, "m2!")))
	const depth = 1<<16 - 10
	for _, v := range []api.Value{nested(depth, null), mapped(depth, null)} {
		lets(t, l, 0, []api.Value{v}, nil)
		lets(t, l, 1, nil, []api.Value{v})
		lets(t, l, 2, nil, []api.Value{v})
	}
	lets(t, l, 1, []api.Value{nested(depth, list())}, []api.Value{nested(depth, object(""))})
}
