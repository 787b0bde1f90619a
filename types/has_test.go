package types_test

import (
	"math"
	"slices"
	"strings"
	"testing"

	"entrepot/api"
)

// Promise 13.2: null, bools, numbers, texts, bytes, and what each part of a type lets be alone.

const (
	exacts  = "0 1 -1 5 6 2^53-1 2^53 2^53+2 -2^53 2^63 -2^63 -2^63-2048 2^64 2^64+4096 2^255 -2^255"
	roughs  = "2^53+1 -2^53-1 2^63-1 -2^63-1 2^64-1 2^64+1 max -max"
	plains  = "plain -plain plain64 0.1"
	fines   = "fine65 fine least 2.0^256 -2.0^256"
	strange = "inf -inf nan"
	words   = "'' 'a' 'aa' 'ab' 'é' '𝄞𝄞' 'aaa'"
	raws    = "x x41 xFF xC3A9 x616161 xFFFFFF"
	arrays  = "[] [null] [1] [1 null] [[]]"
	objects = "{} {a:null} {a:1} {a:1 b:null} {:1}"
)

// alone is parts of a type, each alone or a few at once, and by their names all values of the pool that these let be.
func alone() []struct {
	t    api.Type
	lets string
} {
	return []struct {
		t    api.Type
		lets string
	}{
		{api.Type{}, ""},
		{api.Type{Null: true}, "null"}, {api.Type{False: true}, "false"}, {api.Type{True: true}, "true"}, {api.Type{Null: true, True: true}, "null true"}, {api.Type{False: true, True: true}, "false true"},
		{api.Type{Ints: spans("..")}, exacts + " " + roughs}, {api.Type{Ints: spans("1..5")}, "1 5"}, {api.Type{Ints: spans("0 2..5 6")}, "0 5 6"}, {api.Type{Ints: spans("..-1")}, "-1 -2^53 -2^53-1 -2^63 -2^63-1 -2^63-2048 -max -2^255"}, {api.Type{Ints: spans("2^53+1 2^64 max")}, "2^53+1 2^64 max"}, {api.Type{Ints: spans("5..1")}, ""},
		{api.Type{Exact: spans("..")}, exacts}, {api.Type{Exact: spans("2^53..2^53+2")}, "2^53 2^53+2"}, {api.Type{Exact: spans("2^64..")}, "2^64 2^64+4096 2^255"}, {api.Type{Exact: spans("2^53+1 2^64-1 max -max")}, ""}, {api.Type{Exact: spans("..-2^53-1")}, "-2^63 -2^63-2048 -2^255"}, {api.Type{Exact: spans("-2^63-2048..-2^63 5..6")}, "-2^63-2048 -2^63 5 6"},
		{api.Type{Ints: spans("2^53+1"), Exact: spans("2^53..2^53+2")}, "2^53 2^53+1 2^53+2"}, {api.Type{Ints: spans("-2^63..2^64-1"), Exact: spans("..")}, exacts + " 2^53+1 -2^53-1 2^63-1 2^64-1"},
		{api.Type{Floats: api.FPlain}, plains}, {api.Type{Floats: api.FFine}, fines}, {api.Type{Floats: api.FInf}, "inf"}, {api.Type{Floats: api.FNeg}, "-inf"}, {api.Type{Floats: api.FNaN}, "nan"}, {api.Type{Floats: api.FAll}, plains + " " + fines + " " + strange}, {api.Type{Floats: api.FAll &^ api.FFine}, plains + " " + strange}, {api.Type{Floats: api.FInf | api.FNeg}, "inf -inf"},
		{api.Type{Texts: []api.Texts{texts(0, -1)}}, words}, {api.Type{Texts: []api.Texts{texts(1, 1)}}, "'a' 'é'"}, {api.Type{Texts: []api.Texts{texts(2, 2)}}, "'aa' 'ab' '𝄞𝄞'"}, {api.Type{Texts: []api.Texts{texts(0, -1, "a*")}}, "'' 'a' 'aa' 'aaa'"}, {api.Type{Texts: []api.Texts{texts(2, 3, "a*", "..")}}, "'aa'"}, {api.Type{Texts: []api.Texts{texts(0, -1, "ab"), texts(3, -1), texts(0, 0)}}, "'ab' 'aaa' ''"}, {api.Type{Texts: []api.Texts{texts(3, 2)}}, ""}, {api.Type{Texts: []api.Texts{texts(0, -1, "null")}}, ""},
		{api.Type{Bytes: []api.Size{size(0, -1)}}, raws}, {api.Type{Bytes: []api.Size{size(0, 0)}}, "x"}, {api.Type{Bytes: []api.Size{size(1, 1)}}, "x41 xFF"}, {api.Type{Bytes: []api.Size{size(2, 2)}}, "xC3A9"}, {api.Type{Bytes: []api.Size{size(1, -1)}}, "x41 xFF xC3A9 x616161 xFFFFFF"}, {api.Type{Bytes: []api.Size{size(0, 2)}}, "x x41 xFF xC3A9"}, {api.Type{Bytes: []api.Size{size(3, -1), size(0, 0)}}, "x616161 xFFFFFF x"}, {api.Type{Bytes: []api.Size{size(3, 1)}}, ""}, {api.Type{Bytes: []api.Size{size(3, 1), size(2, 2), size(4, -1)}}, "xC3A9"},
		{ofArrays(arr(-1, 0, -1)), "[]"}, {ofArrays(arr(1, 0, -1)), "[] [null]"}, {ofArrays(arr(1, 1, -1)), "[null]"}, {ofArrays(arr(-1, 0, -1, 2)), "[] [1]"}, {ofArrays(arr(-1, 0, -1, 2, 1)), "[] [1] [1 null]"}, {ofArrays(arr(0, 0, -1)), "[] [[]]"}, {ofArrays(arr(1, 2, 2, 2)), "[1 null]"}, {ofArrays(arr(1, 3, 2)), ""}, {ofArrays(arr(1, 1, 1), arr(-1, 1, 1, 2)), "[null] [1]"},
		{ofMaps(maps(-1, "")), "{}"}, {ofMaps(maps(1, "")), "{} {a:null}"}, {ofMaps(maps(2, "")), "{} {a:1} {:1}"}, {ofMaps(maps(-1, "a2")), "{} {a:1}"}, {ofMaps(maps(-1, "a2!")), "{a:1}"}, {ofMaps(maps(1, "a2!")), "{a:1} {a:1 b:null}"}, {ofMaps(maps(-1, "a2 b1!")), "{a:1 b:null}"}, {ofMaps(api.Map{Rest: -1, Fields: []api.Field{{Name: "", Type: 2, Must: true}}}), "{:1}"}, {ofMaps(maps(-1, "a1!"), maps(-1, "a2!")), "{a:null} {a:1}"},
		{api.Type{True: true, Ints: spans("5"), Floats: api.FNaN, Texts: []api.Texts{texts(0, 0)}, Bytes: []api.Size{size(1, 1)}, Arrays: []api.Arr{arr(-1, 0, 0)}, Maps: []api.Map{maps(-1, "")}}, "true 5 nan '' x41 xFF [] {}"},
	}
}

func TestHasOfPartsAlone(t *testing.T) {
	all := pool()
	known := map[string]bool{}
	for _, x := range all {
		known[x.name] = true
	}
	for _, c := range alone() {
		want := namesOf(c.lets)
		for name := range want {
			if !known[name] {
				t.Fatalf("%s is not in the pool", name)
			}
		}
		l := these(c.t, api.Type{Null: true}, api.Type{Ints: spans("1")})
		may(t, l, api.OK)
		for _, x := range all {
			has(t, l, 0, x.v, want[x.name])
		}
	}
}

// namesOf reads names that blanks divide; there are blanks in some, between brackets.
func namesOf(s string) map[string]bool {
	out := map[string]bool{}
	inside, from := 0, 0
	for at, c := range s + " " {
		switch c {
		case '[', '{':
			inside++
		case ']', '}':
			inside--
		case ' ':
			if inside == 0 {
				out[s[from:at]] = true
				from = at + 1
			}
		}
	}
	delete(out, "")
	return out
}

// Each type is asked by its number, and none that is not there.
func TestHasByNumber(t *testing.T) {
	l := these(api.Type{Null: true}, api.Type{True: true}, api.Type{Ints: spans("1")}, api.Type{Floats: api.FPlain}, everything(4))
	values := []api.Value{null, yes, one, half}
	for i := range values {
		for k, v := range values {
			has(t, l, i, v, i == k)
			has(t, l, 4, v, true)
		}
	}
	for _, i := range []int{-1, -2, 5, 6, 199, 200, 201, 255, 1 << 32, math.MinInt, math.MaxInt} {
		for _, v := range append(values, no, word(""), raw(""), list(), object(""), api.Value{}) {
			has(t, l, i, v, false)
			has(t, nil, i, v, false)
			has(t, these(everything(0)), i, v, false)
		}
	}
	has(t, nil, 0, null, false)
	many := append(make([]api.Type, 199), everything(199))
	has(t, many, 199, list(one), true)
	has(t, many, 198, list(one), false)
	has(t, many, 200, list(one), false)
}

// None of the types may be otherwise than 13.1 says, be it asked for or not.
func TestHasOfTypesThatMayNotBe(t *testing.T) {
	for _, fault := range argFaults() {
		for at := range 3 {
			l := []api.Type{everything(0), everything(1), everything(2)}
			fault(&l[at])
			for i := range l {
				for _, v := range []api.Value{null, one, half, word("a"), raw("a"), list(), list(null), object(""), object("a", one)} {
					has(t, l, i, v, false)
				}
			}
		}
	}
	has(t, copies(200, everything(0)), 0, null, true)
	has(t, copies(201, everything(0)), 0, null, false)
	has(t, these(everything(0), api.Type{Bytes: make([]api.Size, 21)}), 0, null, false)
}

func TestHasOfNumbers(t *testing.T) {
	for _, c := range []struct {
		ints, exact string
		in, out     string
	}{
		{"", "..", "2^53 2^53+2 -2^53-2 2^54 2^54+4 2^255 2^256-2^203 -2^256+2^203 0", "2^53+1 -2^53-1 2^54+2 2^54+1 max -max 2^200+1 2^200+2^147-1"},
		{"", "2^53..2^53+4", "2^53 2^53+2 2^53+4", "2^53+1 2^53+3 2^53-1 2^53+5 2^53+6 -2^53"},
		{"", "2^100..2^101", "2^100 2^100+281474976710656 2^101", "2^100+1 2^100+140737488355328 2^101-1 2^100-1 2^101+1"},
		{"2^100..2^101", "", "2^100 2^100+1 2^101-1 2^101", "2^100-1 2^101+1 -2^100"},
		{"2^53+1..2^53+1", "", "2^53+1", "2^53 2^53+2"},
		{"-max..-2^255", "2^255..max", "-max -2^255 -2^255-1 2^255 2^255+2^203", "-2^255+1 2^255-1 2^255+1 max"},
		{"1..3 7..9", "5 11..", "1 3 5 7 9 11 12 2^53 2^64", "0 4 6 10 -1 2^53+1"},
		{"..-2 2..", "..", "-2 -1 0 1 2 max 2^53+1", ""},
		{"", "", "", "0 1 -1 2^53 max"},
	} {
		l := these(api.Type{Ints: spans(c.ints), Exact: spans(c.exact)})
		lets(t, l, 0, numbers(c.in), numbers(c.out))
	}
}

// numbers reads numbers that blanks divide; 2^a-2^b and 2^a+2^b, too.
func numbers(s string) []api.Value {
	var out []api.Value
	for _, x := range strings.Fields(s) {
		switch x {
		case "2^256-2^203":
			out = append(out, api.Value{Kind: api.KInt, Int: api.Int{N: api.Nat{3: math.MaxUint64 &^ (1<<11 - 1)}}})
		case "-2^256+2^203":
			out = append(out, api.Value{Kind: api.KInt, Int: api.Int{Neg: true, N: api.Nat{3: math.MaxUint64 &^ (1<<11 - 1)}}})
		case "2^255+2^203":
			out = append(out, api.Value{Kind: api.KInt, Int: api.Int{N: api.Nat{3: 1<<63 + 1<<11}}})
		case "2^200+2^147-1":
			out = append(out, api.Value{Kind: api.KInt, Int: api.Int{N: api.Nat{math.MaxUint64, math.MaxUint64, 1<<19 - 1, 1 << 8}}})
		default:
			out = append(out, number(x))
		}
	}
	return out
}

// Each set of Floats lets just its classes be.
func TestHasOfFloats(t *testing.T) {
	classes := map[int][]api.Value{
		api.FPlain: {half, floating(-0.5), floating(1.5), floating(1<<52 - 0.5), floating(math.Ldexp(1, -64)), floating(math.Ldexp(-3, -64)), floating(0.1)},
		api.FFine:  {floating(math.Ldexp(1, -65)), floating(1e-100), bits(1), bits(minusZero | 1), bits(two256), bits(two256 | minusZero), floating(math.MaxFloat64)},
		api.FInf:   {bits(infinity)}, api.FNeg: {bits(minusInfinity)}, api.FNaN: {bits(0x7FF8000000000000)},
	}
	for floats := range 32 {
		l := these(api.Type{Floats: floats})
		for class, values := range classes {
			for _, v := range values {
				has(t, l, 0, v, floats&class != 0)
			}
		}
		for _, v := range []api.Value{null, no, number("0"), one, number("2^255"), word("0.5"), raw(""), list(half), object("a", half)} {
			has(t, l, 0, v, false)
		}
	}
}

// Texts are counted by code points, bytes by bytes.
func TestHasOfSizes(t *testing.T) {
	ends := []int{0, 1, 2, 3, 4, 4095, 4096}
	for _, least := range ends {
		for _, most := range append(ends, -1) {
			l := these(api.Type{Texts: []api.Texts{texts(least, most)}}, api.Type{Bytes: []api.Size{size(least, most)}})
			for _, n := range []int{0, 1, 2, 3, 4, 5, 4094, 4095, 4096, 4097, 9000} {
				in := n >= least && (most == -1 || n <= most)
				for _, letter := range []string{"a", "é", "𝄞"} {
					has(t, l, 0, word(strings.Repeat(letter, n)), in)
					has(t, l, 1, word(strings.Repeat(letter, n)), false)
				}
				has(t, l, 1, raw(strings.Repeat("a", n)), in)
				has(t, l, 1, raw(strings.Repeat("\xFF", n)), in)
				has(t, l, 0, raw(strings.Repeat("a", n)), false)
			}
			has(t, l, 1, raw("é"), 2 >= least && (most == -1 || 2 <= most))
			has(t, l, 1, raw("𝄞"), 4 >= least && (most == -1 || 4 <= most))
		}
	}
}

// Any of several sets is enough, wherever it stands.
func TestHasOfSeveralSets(t *testing.T) {
	for n := range 20 {
		for at := range n + 1 {
			l := these(api.Type{
				Texts: slices.Insert(copies(n, texts(0, -1, "b+")), at, texts(2, 3, "a*")),
				Bytes: slices.Insert(copies(n, size(5, 5)), at, size(2, 3)),
				Ints:  slices.Insert(copies(n, spans("5")[0]), at, spans("2..3")[0]),
			})
			lets(t, l, 0, []api.Value{word("aa"), word("aaa"), raw("aa"), raw("aaa"), number("2"), number("3")}, []api.Value{word(""), word("a"), word("aaaa"), word("ab"), raw(""), raw("a"), raw("aaaa"), number("1"), number("4")})
			has(t, l, 0, number("5"), n > 0)
			has(t, l, 0, word("b"), n > 0)
			has(t, l, 0, raw("aaaaa"), n > 0)
		}
	}
}
