package mix_test

import (
	"slices"
	"strings"
	"testing"

	"entrepot/api"
)

// Promises 14.1 and 14.2: And of numbers, texts and bytes, of arrays, of maps.

func TestAndOfWords(t *testing.T) {
	for _, c := range []struct {
		a, b api.Type
		want string
	}{
		{api.Type{}, api.Type{}, ""},
		{api.Type{}, everything(0), ""},
		{api.Type{Null: true}, api.Type{Null: true, True: true}, "null"},
		{api.Type{Null: true}, api.Type{False: true}, ""},
		{api.Type{False: true, True: true}, api.Type{True: true}, "true"},
		{api.Type{False: true, Null: true}, api.Type{False: true, True: true}, "false"},
		{api.Type{Ints: spans("1..5")}, api.Type{Ints: spans("3..9")}, "5"},
		{api.Type{Ints: spans("0..1 5 2^53..")}, api.Type{Ints: spans("1..2^53")}, "1 5 2^53"},
		{api.Type{Ints: spans("..1")}, api.Type{Ints: spans("5..")}, ""},
		{api.Type{Ints: spans("..")}, api.Type{Exact: spans("2^53..2^53+2")}, "2^53 2^53+2"},
		{api.Type{Ints: spans("2^53+1..")}, api.Type{Exact: spans("..2^63")}, "2^53+2 2^63"},
		{api.Type{Exact: spans("..")}, api.Type{Exact: spans("-1..1 2^53+1")}, "-1 0 1"},
		{api.Type{Exact: spans("..0")}, api.Type{Exact: spans("1..")}, ""},
		{api.Type{Ints: spans("2^53+1 2^53+2"), Exact: spans("5..6")}, api.Type{Ints: spans("5 2^53+1"), Exact: spans("6.. 0")}, "5 6 2^53+1 2^53+2"},
		{api.Type{Ints: spans("2^53+1..2^64")}, api.Type{Ints: spans("max"), Exact: spans("2^53+1..max")}, "2^53+2 2^63 2^64"},
		{api.Type{Ints: spans("2^53+1")}, api.Type{Exact: spans("2^53+1")}, ""},
		{api.Type{Floats: api.FInf | api.FNeg}, api.Type{Floats: api.FNeg | api.FNaN}, "-inf"},
		{api.Type{Floats: api.FPlain}, api.Type{Floats: api.FFine}, ""},
		{api.Type{Floats: api.FPlain | api.FNaN}, api.Type{Floats: api.FAll}, "plain -plain plain64 0.1 nan"},
		{api.Type{Floats: api.FAll}, api.Type{Ints: spans("..")}, ""},
		{api.Type{Texts: []api.Texts{texts(0, 2)}}, api.Type{Texts: []api.Texts{texts(0, -1, "a*")}}, "'' 'a' 'aa'"},
		{api.Type{Texts: []api.Texts{texts(2, -1)}}, api.Type{Texts: []api.Texts{texts(0, 2)}}, "'aa' 'ab' '𝄞𝄞'"},
		{api.Type{Texts: []api.Texts{texts(3, -1)}}, api.Type{Texts: []api.Texts{texts(0, 2)}}, ""},
		{api.Type{Texts: []api.Texts{texts(0, -1, "a*")}}, api.Type{Texts: []api.Texts{texts(0, -1, "b*", ".?")}}, "''"},
		{api.Type{Texts: []api.Texts{texts(0, -1, "a.*")}}, api.Type{Texts: []api.Texts{texts(0, -1, "b.*")}}, ""},
		{api.Type{Texts: []api.Texts{texts(1, 1), texts(0, -1, "ab|aaa")}}, api.Type{Texts: []api.Texts{texts(3, 3), texts(0, -1, "é|ab")}}, "'ab' 'aaa' 'é'"},
		{api.Type{Texts: []api.Texts{texts(2, 1)}}, api.Type{Texts: []api.Texts{texts(0, -1)}}, ""},
		{api.Type{Bytes: []api.Size{size(0, 2)}}, api.Type{Bytes: []api.Size{size(2, 9)}}, "xC3A9"},
		{api.Type{Bytes: []api.Size{size(0, 1)}}, api.Type{Bytes: []api.Size{size(2, 9)}}, ""},
		{api.Type{Bytes: []api.Size{size(1, -1)}}, api.Type{Bytes: []api.Size{size(0, -1)}}, "x41 xFF xC3A9 x616161 xFFFFFF"},
		{api.Type{Bytes: []api.Size{size(3, -1), size(0, 1)}}, api.Type{Bytes: []api.Size{size(1, 3)}}, "x41 xFF x616161 xFFFFFF"},
		{api.Type{Bytes: []api.Size{size(3, 1)}}, api.Type{Bytes: []api.Size{size(0, -1)}}, ""},
		{api.Type{Bytes: []api.Size{size(0, -1)}}, api.Type{Texts: []api.Texts{texts(0, -1)}}, ""},
		{ofArrays(arr(1, 0, -1)), ofArrays(arr(1, 1, -1)), "[null]"},
		{ofArrays(arr(1, 0, -1)), ofArrays(arr(2, 0, -1)), "[]"},
		{ofArrays(arr(1, 0, -1)), ofMaps(maps(1, "")), ""},
		{ofMaps(maps(1, "")), ofMaps(maps(2, "")), "{}"},
		{ofMaps(maps(1, "a2!")), ofMaps(maps(-1, "a2 b1")), "{a:1} {a:1,b:null}"},
	} {
		l := these(everything(0), api.Type{Null: true}, api.Type{Ints: spans("1")}, c.a, c.b)
		in, out := find(t, c.want)
		meets(t, l, 3, 4, in, out)
	}
}

// Each part is met with each, and with itself.
func TestAndOfEachPart(t *testing.T) {
	l := letters(single()...)
	for i := range l {
		for j := range i + 1 {
			follows(t, and, l, i, j, poolValues())
		}
	}
}

// All ways in which a whole number may be in either's Ints or Exact, and one whose place they are.
func TestAndOfAllKindsOfNumbers(t *testing.T) {
	sets := []string{"", "..", "0..5", "2^53..2^53+4", "..-2^53 -1 6 2^64.."}
	var values []api.Value
	for _, v := range poolValues() {
		if v.Kind == api.KInt {
			values = append(values, v)
		}
	}
	var l []api.Type
	for _, ints := range sets {
		for _, exact := range sets {
			l = append(l, api.Type{Ints: spans(ints), Exact: spans(exact)})
		}
	}
	for i := range l {
		for j := range i + 1 {
			follows(t, and, l, i, j, values)
		}
	}
}

func TestAndOfArrays(t *testing.T) {
	for _, c := range []struct {
		a, b    []api.Arr
		in, out string
	}{
		{nil, []api.Arr{arr(0, 0, -1)}, "", "- n"},
		{[]api.Arr{arr(0, 0, -1)}, []api.Arr{arr(3, 0, -1)}, "- n nn nnnnn", "t nt i"},
		{[]api.Arr{arr(2, 0, -1)}, []api.Arr{arr(3, 0, -1)}, "-", "i n t ii"},
		{[]api.Arr{arr(-1, 0, -1)}, []api.Arr{arr(3, 0, -1)}, "-", "n t"},
		{[]api.Arr{arr(-1, 0, -1, 0, 2)}, []api.Arr{arr(3, 0, -1)}, "- n", "ni nn t nt"}, // Prefixes of different lengths, against Rest
		{[]api.Arr{arr(2, 0, -1, 0)}, []api.Arr{arr(2, 0, -1, 3)}, "- n ni nii", "t ti nn i"},
		{[]api.Arr{arr(2, 0, -1, 0)}, []api.Arr{arr(2, 0, -1, 3, 1)}, "- n", "nb ni nii"},
		{[]api.Arr{arr(3, 0, -1, 0)}, []api.Arr{arr(0, 0, -1, 3, 3, 3)}, "- n nn nt ntt nttn nttnn", "t tt nttt nttnt"},
		{[]api.Arr{arr(3, 0, -1)}, []api.Arr{arr(-1, 0, -1, 3, 0, 3)}, "- t n tn tnt nnn", "tt tti tntt tntn"},
		{[]api.Arr{arr(-1, 0, -1, 0)}, []api.Arr{arr(0, 0, -1, 0, 0, 0)}, "- n", "nn nnn nnnn"}, // none behind the shorter one
		{[]api.Arr{arr(-1, 0, -1, 0)}, []api.Arr{arr(-1, 0, -1, 0, 0, 0)}, "- n", "nn nnn nnnn"},
		{[]api.Arr{arr(-1, 0, -1, 0, 0)}, []api.Arr{arr(-1, 0, -1, 3, 3)}, "- n nn", "t nt tn nnn"},
		{[]api.Arr{arr(-1, 0, -1)}, []api.Arr{arr(-1, 0, -1)}, "-", "n"},
		{[]api.Arr{arr(-1, 0, -1, 3, 3, 3, 3, 3, 3, 3, 3)}, []api.Arr{arr(0, 0, -1)}, "- n nn nnnnnnnn", "t nnnnnnnnn nnnnnnnt"},
		{[]api.Arr{arr(3, 0, -1, 3, 3, 3, 3, 3, 3, 3, 3)}, []api.Arr{arr(0, 0, -1, 3)}, "- n t tn tnnnnnnn tnnnnnnnnn", "tt tnnnnnnt tnnnnnnnnt"},
		{[]api.Arr{arr(3, 2, 4)}, []api.Arr{arr(0, 3, -1)}, "nnn nnnn", "- n nn nnnnn nnt"}, // lengths
		{[]api.Arr{arr(3, 2, 4)}, []api.Arr{arr(0, 4, 6)}, "nnnn", "- nn nnn nnnnn"},
		{[]api.Arr{arr(3, 2, 4)}, []api.Arr{arr(0, 5, 6)}, "", "- nnn nnnn nnnnn nnnnnn"},
		{[]api.Arr{arr(3, 0, -1)}, []api.Arr{arr(0, 0, 0)}, "-", "n nn"},
		{[]api.Arr{arr(3, 1, -1)}, []api.Arr{arr(0, 2, -1)}, "nn nnn nnnnnn", "- n"},
		{[]api.Arr{arr(3, 0, 3)}, []api.Arr{arr(0, 0, 2)}, "- n nn", "nnn nnnn"},
		{[]api.Arr{arr(3, 3, 2)}, []api.Arr{arr(0, 0, -1)}, "", "- n nn nnn"},
		{[]api.Arr{arr(-1, 0, -1, 0)}, []api.Arr{arr(0, 1, -1)}, "n", "- nn nnn"},
		{[]api.Arr{arr(-1, 0, -1, 0)}, []api.Arr{arr(0, 2, -1)}, "", "- n nn nnn"}, // too short by its Prefix
		{[]api.Arr{arr(-1, 2, -1, 0, 0, 0)}, []api.Arr{arr(3, 0, 2)}, "nn", "- n nnn"},
		{[]api.Arr{arr(0, 0, -1), arr(2, 1, -1)}, []api.Arr{arr(3, 1, 2), arr(2, 2, 2, 2)}, "n nn ii", "- i nnn iii ni in nt"}, // each with each
		{[]api.Arr{arr(-1, 1, 1, 0), arr(-1, 1, 1, 2)}, []api.Arr{arr(-1, 1, 1, 1), arr(-1, 1, 1, 2), arr(3, 3, 3)}, "i", "- n b t nnn"},
		{[]api.Arr{arr(4, 0, -1)}, []api.Arr{arr(5, 0, -1)}, "-", "n i b t"}, // what can be of neither: an array in an array, and so on
	} {
		meets(t, letters(ofArrays(c.a...), ofArrays(c.b...)), 4, 5, rows(c.in), rows(c.out))
		slices.Reverse(c.a)
		slices.Reverse(c.b)
		l := letters(ofArrays(c.a...), ofArrays(c.b...))
		meets(t, l, 4, 5, rows(c.in), rows(c.out))
		follows(t, and, l, 4, 5, append(rows("- n t i b nn nt tn tt ni in ii nb bn nnn nnt tnn iii nnnn nttn nttnn"), poolValues()...))
		follows(t, and, l, 4, 4, rows("- n t i b nn nt tn tt ni in ii nb bn nnn nnt tnn iii nnnn nttn nttnn"))
	}
}

// All lengths and Prefixes, with Rest and with none, held against both.
func TestAndOfAllLengths(t *testing.T) {
	var l []api.Type
	for _, prefix := range [][]int{nil, {0}, {3, 0}, {3, 3, 2}} {
		for _, rest := range []int{-1, 0, 3} {
			for _, s := range []api.Size{size(0, -1), size(1, 2), size(2, -1), size(0, 3)} {
				l = append(l, ofArrays(api.Arr{Prefix: prefix, Rest: rest, Size: s}))
			}
		}
	}
	values := rows("- n t i nn nt tn tt nnn ttt nni tti ntn nnnn tnin ttin ttit nnnnn")
	for i := range l {
		for j := range i + 1 {
			follows(t, and, letters(l[i], l[j]), 4, 5, values)
		}
	}
}

func TestAndOfMaps(t *testing.T) {
	for _, c := range []struct {
		a, b    []api.Map
		in, out string
	}{
		{nil, []api.Map{maps(0, "")}, "", ". n"},
		{[]api.Map{maps(0, "")}, []api.Map{maps(3, "")}, ". n .n nn", "t nt i"},
		{[]api.Map{maps(2, "")}, []api.Map{maps(3, "")}, ".", "n t i"},
		{[]api.Map{maps(-1, "")}, []api.Map{maps(3, "")}, ".", "n t"},
		{[]api.Map{maps(-1, "")}, []api.Map{maps(-1, "")}, ".", "n t"},
		{[]api.Map{maps(-1, "a0")}, []api.Map{maps(-1, "a3")}, ". n", "t i .n nn"}, // both name it
		{[]api.Map{maps(-1, "a0!")}, []api.Map{maps(-1, "a3")}, "n", ". t i .n nn"},
		{[]api.Map{maps(-1, "a0!")}, []api.Map{maps(-1, "a3!")}, "n", ". t i"},
		{[]api.Map{maps(-1, "a0")}, []api.Map{maps(-1, "a2")}, ".", "n i"},
		{[]api.Map{maps(-1, "a0!")}, []api.Map{maps(-1, "a2")}, "", ". n i"},
		{[]api.Map{maps(-1, "a3")}, []api.Map{maps(0, "")}, ". n", "t .n nn"}, // only one names it: with the other's Rest
		{[]api.Map{maps(-1, "a3!")}, []api.Map{maps(0, "")}, "n", ". t .n nn"},
		{[]api.Map{maps(-1, "a3 b3")}, []api.Map{maps(0, "b3")}, ". n .t nt", "t tt ..n"},
		{[]api.Map{maps(3, "a0")}, []api.Map{maps(0, "b3!")}, ".t nt .tn", ". n t tt .tt .t.t"},
		{[]api.Map{maps(2, "a0")}, []api.Map{maps(2, "c3!")}, "", ". n i ..t ..i ..n i.t"},
		{[]api.Map{maps(0, "b0")}, []api.Map{maps(0, "a3 c3!")}, "..n n.n nnn nnnn .nn", ". n nn ..t t.n"},
		{[]api.Map{maps(-1, "a0")}, []api.Map{maps(-1, "b0")}, ".", "n .n nn"}, // only one names it, and the other has no Rest: it can't be there
		{[]api.Map{maps(-1, "a0!")}, []api.Map{maps(-1, "b0")}, "", ". n .n nn"},
		{[]api.Map{maps(-1, "a0")}, []api.Map{maps(-1, "b0!")}, "", ". n .n nn"},
		{[]api.Map{maps(2, "a0!")}, []api.Map{maps(-1, "b2")}, "", ". n ni .i i"},
		{[]api.Map{maps(2, "a0")}, []api.Map{maps(-1, "b2")}, ". .i", "n ni i .n"},
		{[]api.Map{maps(2, "a0")}, []api.Map{maps(-1, "b2!")}, ".i", ". n ni i .n"},
		{[]api.Map{maps(3, "a0 c0!")}, []api.Map{maps(-1, "b3 c3 d3")}, "..n .tn .tnt", ". ..t n.n .t.t"},
		{[]api.Map{maps(3, "a0 c0! e0!")}, []api.Map{maps(-1, "b3 c3 d3")}, "", ". ..n ..n.n"},
		{[]api.Map{maps(-1, "a0!"), maps(-1, "b2!")}, []api.Map{maps(3, ""), maps(2, "")}, "n .i", ". i .n nn ni"}, // each with each
		{[]api.Map{maps(0, "a3"), maps(2, "b3!")}, []api.Map{maps(3, "b0"), maps(2, "c3!")}, ". n t .n tn nn tnn ..n", "i in .t tt nt ..t i.n"},
	} {
		in, out := records(c.in), records(c.out)
		l := letters(ofMaps(c.a...), ofMaps(c.b...))
		meets(t, l, 4, 5, in, out)
		slices.Reverse(c.a)
		slices.Reverse(c.b)
		meets(t, l, 4, 5, in, out)
		follows(t, and, l, 4, 5, append(records(". n t i b nn nt tn tt ni in ii .n .t .i ..n ..t nnn ttt iii nnnn tttt"), poolValues()...))
		follows(t, and, l, 4, 4, records(". n t i b nn nt tn tt ni in ii .n .t .i ..n ..t nnn ttt iii nnnn tttt"))
	}
}

// All that two Maps may say of two names and of others, held against both.
func TestAndOfAllFields(t *testing.T) {
	var l []api.Type
	for _, a := range []string{"", "a0", "a3!"} {
		for _, b := range []string{"", "b3", "b0!"} {
			for _, rest := range []int{-1, 0, 3} {
				l = append(l, ofMaps(maps(rest, a+" "+b)))
			}
		}
	}
	values := records(". n t .n .t nn nt tn tt ..n ..t n.n t.t nnn ttt ntn tnt .nn .tt i")
	for i := range l {
		for j := range i + 1 {
			follows(t, and, letters(l[i], l[j]), 4, 5, values)
		}
	}
}

// Fields are told apart by their bytes, and rise in what is answered.
func TestAndOfNames(t *testing.T) {
	long := strings.Repeat("a", 4096)
	all := []string{"", "\x00", "A", "a", "a\x00", long, "b", "é", "𝄞"}
	fields := func(rest, at, step int) api.Type {
		m := api.Map{Rest: rest}
		for k := at; k < len(all); k += step {
			m.Fields = append(m.Fields, api.Field{Name: all[k], Type: 3})
		}
		return ofMaps(m)
	}
	whole := func(except int, v api.Value) api.Value {
		out := api.Value{Kind: api.KMap}
		for k, name := range all {
			w := null
			if k == except {
				w = v
			}
			out.Keys, out.List = append(out.Keys, name), append(out.List, w)
		}
		return out
	}
	l := letters(fields(0, 0, 2), fields(3, 1, 2), fields(0, 0, 1))
	for k := range all {
		meets(t, l, 4, 5, []api.Value{whole(k, null), member(all[k], null)}, []api.Value{whole(k, one), member(all[k], one)})
		even := k%2 == 0
		in, out := []api.Value{member(all[k], word("x"))}, []api.Value(nil)
		if !even {
			in, out = out, in
		}
		meets(t, l, 4, 5, in, out)
		meets(t, l, 4, 6, in, out)
		meets(t, l, 6, 6, []api.Value{member(all[k], word("x"))}, []api.Value{member(all[k], one), member("z", word("x"))})
	}
}
