package types_test

import (
	"math"
	"slices"
	"strings"
	"testing"

	"entrepot/api"
)

// Promise 13.1.

func TestMayOfHowManyTypes(t *testing.T) {
	may(t, nil, api.OK)
	may(t, these(), api.OK)
	for _, n := range []int{1, 2, 199, 200} {
		may(t, make([]api.Type, n), api.OK)
		may(t, copies(n, everything(n-1)), api.OK)
	}
	for _, n := range []int{201, 202, 400, 100_000} {
		may(t, make([]api.Type, n), api.ErrLimit)
	}
	may(t, copies(201, everything(0)), api.ErrLimit)
}

// counted is how many there are of what 13.1 counts, and up to how many there may be.
var counted = []struct {
	most int
	set  func(t *api.Type, n int)
}{
	{20, func(t *api.Type, n int) { t.Texts = make([]api.Texts, n) }},
	{20, func(t *api.Type, n int) { t.Bytes = make([]api.Size, n) }},
	{20, func(t *api.Type, n int) { t.Arrays = make([]api.Arr, n) }},
	{20, func(t *api.Type, n int) { t.Maps = make([]api.Map, n) }},
	{8, func(t *api.Type, n int) { t.Arrays = []api.Arr{{}, arr(-1, 0, 0, make([]int, n)...), {}} }},
	{50, func(t *api.Type, n int) { t.Maps = []api.Map{{}, {Fields: fields(n)}, {}} }},
}

func fields(n int) []api.Field {
	var out []api.Field
	for _, name := range names(n) {
		out = append(out, api.Field{Name: name})
	}
	return out
}

func TestMayOfHowManyParts(t *testing.T) {
	for _, c := range counted {
		for _, n := range []int{0, 1, c.most - 1, c.most, c.most + 1, c.most + 2, 60, 255, 256, 257, 3000} {
			want := api.OK
			if n > c.most {
				want = api.ErrLimit
			}
			for at := range 3 {
				l := make([]api.Type, 3)
				c.set(&l[at], n)
				may(t, l, want)
				may(t, l[at:at+1], want)
			}
		}
	}
}

// As many of each as there may be, side by side: no two are counted together.
func TestMayOfAllParts(t *testing.T) {
	full := api.Type{Null: true, False: true, True: true, Ints: copies(1000, spans("1..2")[0]), Exact: copies(1000, spans("..")[0]), Floats: 31, Texts: make([]api.Texts, 20), Bytes: make([]api.Size, 20)}
	for range 20 {
		full.Arrays = append(full.Arrays, arr(0, 0, 0, make([]int, 8)...))
		full.Maps = append(full.Maps, api.Map{Fields: fields(50)})
	}
	may(t, these(full), api.OK)
	may(t, copies(200, full), api.OK)
	may(t, append(copies(199, full), api.Type{Bytes: make([]api.Size, 21)}), api.ErrLimit)
	may(t, append(copies(199, full), api.Type{Floats: 32}), api.ErrArg)
}

func TestMayOfFloats(t *testing.T) {
	for n := range 32 {
		may(t, these(api.Type{Floats: n}), api.OK)
	}
	for _, n := range []int{-1, -2, -31, -32, 32, 33, 63, 64, 1 << 31, 1 << 32, 1<<32 + 1, math.MinInt, math.MinInt + 1, math.MaxInt} {
		may(t, these(api.Type{Floats: n}), api.ErrArg)
		may(t, these(api.Type{}, api.Type{Floats: n}, api.Type{}), api.ErrArg)
	}
}

func TestMayOfSizes(t *testing.T) {
	for _, c := range []struct {
		most int
		of   func(s api.Size) api.Type
	}{
		{4096, func(s api.Size) api.Type { return api.Type{Bytes: []api.Size{size(0, -1), s, size(3, 4)}} }},
		{1000, func(s api.Size) api.Type {
			return ofArrays(arr(0, 0, -1), api.Arr{Rest: -1, Size: s}, arr(-1, 3, 4, 0))
		}},
	} {
		wanted := map[int]bool{}
		for _, n := range []int{0, 1, 2, 999, 1000, 1001, 4095, 4096} {
			wanted[n] = n <= c.most
		}
		for _, n := range []int{-1, -2, -1000, -4096, 4097, 5000, 1 << 16, 1 << 32, 1<<32 + 1, math.MinInt, math.MaxInt} {
			wanted[n] = false
		}
		for least, ok := range wanted {
			for most, okMost := range wanted {
				want := api.ErrArg
				if ok && (okMost || most == -1) { // Max below Min may be
					want = api.OK
				}
				may(t, these(c.of(size(least, most))), want)
			}
		}
	}
}

// A type's number is asked wherever one stands.
func TestMayOfNumbers(t *testing.T) {
	for _, n := range []int{1, 2, 5, 200} {
		for _, i := range []int{math.MinInt, -1000, -2, -1, 0, n / 2, n - 1, n, n + 1, 1000, 1 << 32, math.MaxInt} {
			isOne := i >= 0 && i < n
			for _, c := range []struct {
				t  api.Type
				ok bool
			}{
				{ofArrays(arr(-1, 0, -1, i)), isOne}, {ofArrays(arr(-1, 0, -1, i, 0, 0)), isOne}, {ofArrays(arr(0, 0, -1, 0, 0, i)), isOne}, {ofArrays(arr(0, 0, 0), arr(0, 0, 0), arr(0, 5, 2, 0, 0, 0, 0, 0, 0, 0, i)), isOne},
				{ofArrays(arr(i, 0, -1)), isOne || i == -1}, {ofArrays(arr(-1, 0, 0), arr(i, 0, 0)), isOne || i == -1}, {ofArrays(arr(i, 0, 0, 0, 0)), isOne || i == -1},
				{ofMaps(maps(i, "")), isOne || i == -1}, {ofMaps(maps(-1, ""), maps(i, "a0 b0")), isOne || i == -1},
				{ofMaps(api.Map{Rest: -1, Fields: []api.Field{{Name: "a", Type: i}}}), isOne}, {ofMaps(api.Map{Rest: 0, Fields: []api.Field{{Name: "a", Type: i, Must: true}, {Name: "b"}}}), isOne}, {ofMaps(maps(0, ""), api.Map{Fields: []api.Field{{Name: "a"}, {Name: "b"}, {Name: "c", Type: i}}}), isOne},
			} {
				want := api.ErrArg
				if c.ok {
					want = api.OK
				}
				for _, at := range []int{0, n / 2, n - 1} {
					l := make([]api.Type, n)
					l[at] = c.t
					may(t, l, want)
				}
			}
		}
	}
}

func TestMayOfNames(t *testing.T) {
	long := strings.Repeat("a", 4096)
	for _, c := range []struct {
		names []string
		want  int
	}{
		{nil, api.OK}, {[]string{""}, api.OK}, {[]string{"", "a", "aa", "b"}, api.OK}, {[]string{"A", "a"}, api.OK}, {[]string{"a", "a\x00"}, api.OK}, {[]string{"z", "é", "€", "\uFFFD", "𝄞"}, api.OK}, {[]string{"10", "9"}, api.OK},
		{[]string{long}, api.OK}, {[]string{long[1:] + "b"}, api.OK}, {[]string{strings.Repeat("é", 2048)}, api.OK}, {[]string{"", long[1:], long}, api.OK}, {[]string{strings.Repeat("𝄞", 1024)}, api.OK},
		{[]string{"a", "a"}, api.ErrArg}, {[]string{"", ""}, api.ErrArg}, {[]string{"a", "b", "b"}, api.ErrArg}, {[]string{long, long}, api.ErrArg},
		{[]string{"b", "a"}, api.ErrArg}, {[]string{"a", ""}, api.ErrArg}, {[]string{"a", "c", "b"}, api.ErrArg}, {[]string{"b", "a", "c"}, api.ErrArg}, {[]string{"a", "A"}, api.ErrArg}, {[]string{"9", "10"}, api.ErrArg}, {[]string{"aa", "a"}, api.ErrArg}, {[]string{"a", "b", "a"}, api.ErrArg},
		{[]string{long + "a"}, api.ErrArg}, {[]string{"a", long + "a"}, api.ErrArg}, {[]string{strings.Repeat("é", 2049)}, api.ErrArg}, {[]string{long[1:] + "é"}, api.ErrArg}, {[]string{strings.Repeat("a", 100_000)}, api.ErrArg},
		{[]string{"\xFF"}, api.ErrArg}, {[]string{"a", "b\x80"}, api.ErrArg}, {[]string{"\xC3"}, api.ErrArg}, {[]string{"\xED\xA0\x80"}, api.ErrArg}, {[]string{"\xF4\x90\x80\x80"}, api.ErrArg}, {[]string{"a", "é\xC0\x80", "ê"}, api.ErrArg}, {[]string{long[1:] + "\xC3"}, api.ErrArg},
	} {
		m := api.Map{Rest: -1}
		for _, name := range c.names {
			m.Fields = append(m.Fields, api.Field{Name: name})
		}
		may(t, these(ofMaps(m)), c.want)
		may(t, these(api.Type{}, ofMaps(maps(0, "z0"), m, maps(0, "a0"))), c.want)
		for i := range m.Fields {
			m.Fields[i].Must = true
		}
		may(t, these(ofMaps(m)), c.want)
	}
}

// argFaults is what lets a type not be but for how many there are of anything.
func argFaults() []func(t *api.Type) {
	return []func(t *api.Type){
		func(t *api.Type) { t.Ints = copies(1001, api.Span{}) },
		func(t *api.Type) { t.Ints = []api.Span{{HasLo: true, Lo: api.Int{Neg: true}}} },
		func(t *api.Type) { t.Ints = []api.Span{{}, {Hi: num("1")}} },
		func(t *api.Type) { t.Exact = copies(1001, api.Span{}) },
		func(t *api.Type) { t.Exact = []api.Span{{HasHi: true, Hi: api.Int{Neg: true}}} },
		func(t *api.Type) { t.Exact = []api.Span{{}, {HasHi: true, Lo: num("-1")}} },
		func(t *api.Type) { t.Texts = []api.Texts{texts(0, -1), texts(0, -1, "a", "(")} },
		func(t *api.Type) { t.Texts = []api.Texts{texts(-1, 0), texts(0, -1)} },
		func(t *api.Type) { t.Texts = []api.Texts{texts(0, -2)} },
		func(t *api.Type) { t.Texts = []api.Texts{texts(0, 4097)} },
		func(t *api.Type) { t.Texts = []api.Texts{texts(0, -1, copies(9, "a")...)} },
		func(t *api.Type) { t.Floats = -1 },
		func(t *api.Type) { t.Floats = 32 },
		func(t *api.Type) { t.Bytes = []api.Size{size(0, -1), size(-1, -1)} },
		func(t *api.Type) { t.Bytes = []api.Size{size(0, 4097), size(0, -1)} },
		func(t *api.Type) { t.Arrays = []api.Arr{arr(-1, 0, -1), arr(-1, 1001, -1)} },
		func(t *api.Type) { t.Arrays = []api.Arr{arr(-1, 0, -2), arr(-1, 0, -1)} },
		func(t *api.Type) { t.Arrays = []api.Arr{arr(-2, 0, 0)} },
		func(t *api.Type) { t.Arrays = []api.Arr{arr(-1, 0, 0, 0, -1)} },
		func(t *api.Type) { t.Arrays = []api.Arr{arr(1000, 0, 0)} },
		func(t *api.Type) { t.Maps = []api.Map{maps(-1, ""), maps(-2, "")} },
		func(t *api.Type) { t.Maps = []api.Map{maps(1000, ""), maps(-1, "")} },
		func(t *api.Type) { t.Maps = []api.Map{maps(-1, "a0 b1000")} },
		func(t *api.Type) { t.Maps = []api.Map{maps(-1, "a-1")} },
		func(t *api.Type) { t.Maps = []api.Map{maps(-1, "b0 a0")} },
		func(t *api.Type) { t.Maps = []api.Map{maps(-1, "a0 a0")} },
		func(t *api.Type) { t.Maps = []api.Map{maps(-1, "\xFF0")} },
		func(t *api.Type) { t.Maps = []api.Map{maps(-1, strings.Repeat("a", 4097)+"0")} },
	}
}

func TestMayOfEachFault(t *testing.T) {
	for _, fault := range argFaults() {
		for n := 1; n < 4; n++ {
			for at := range n {
				l := copies(n, everything(n-1))
				fault(&l[at])
				may(t, l, api.ErrArg)
				l = clones(make([]api.Type, n))
				fault(&l[at])
				may(t, l, api.ErrArg)
			}
		}
	}
}

// Where both could be told ErrLimit is, in whatever order they stand.
func TestLimitAheadOfArg(t *testing.T) {
	for _, c := range counted {
		for _, fault := range argFaults() {
			for _, at := range [][2]int{{0, 0}, {1, 1}, {0, 1}, {1, 0}, {0, 2}, {2, 0}} {
				l := make([]api.Type, 3)
				fault(&l[at[1]])
				limited := api.Type{}
				c.set(&limited, c.most+1)
				l[at[0]] = both(l[at[0]], limited)
				may(t, l, api.ErrLimit)
			}
		}
	}
	for _, fault := range argFaults() {
		l := make([]api.Type, 201)
		fault(&l[0])
		fault(&l[200])
		may(t, l, api.ErrLimit)
	}
	may(t, these(ofArrays(arr(-5, -5, -5, copies(9, -5)...))), api.ErrLimit)
	may(t, these(ofMaps(api.Map{Rest: -5, Fields: copies(51, api.Field{Name: "\xFF", Type: -5})})), api.ErrLimit)
	may(t, these(api.Type{Texts: copies(21, texts(-1, -2, "("))}), api.ErrLimit)
	may(t, these(api.Type{Bytes: copies(21, size(-1, -2))}), api.ErrLimit)
}

// both is all that two types have.
func both(a, b api.Type) api.Type {
	return api.Type{Ints: slices.Concat(a.Ints, b.Ints), Exact: slices.Concat(a.Exact, b.Exact), Floats: a.Floats + b.Floats, Texts: slices.Concat(a.Texts, b.Texts), Bytes: slices.Concat(a.Bytes, b.Bytes), Arrays: slices.Concat(a.Arrays, b.Arrays), Maps: slices.Concat(a.Maps, b.Maps)}
}

// A Size, a span, a text of Ints, Exact and Texts may be whatever chapters 9 and 12 let be.
func TestMayOfSets(t *testing.T) {
	for _, s := range []string{"", "..", "1..5", "5..1", "..-2^255 3 4 9..", "-max..max"} {
		may(t, these(api.Type{Ints: spans(s)}), api.OK)
		may(t, these(api.Type{Exact: spans(s)}), api.OK)
		may(t, these(api.Type{Ints: spans(s), Exact: spans(s)}), api.OK)
	}
	may(t, these(api.Type{Ints: copies(1000, api.Span{})}), api.OK)
	may(t, these(api.Type{Exact: copies(1000, api.Span{})}), api.OK)
	for _, x := range []api.Texts{texts(0, -1), texts(3, 2), texts(4096, 4096), texts(0, -1, copies(8, "a*")...), texts(0, 5, "", "[^a]", "(a|b)*")} {
		may(t, these(api.Type{Texts: []api.Texts{x}}), api.OK)
		may(t, these(api.Type{}, api.Type{Texts: copies(20, x)}), api.OK)
	}
	for _, x := range []api.Texts{texts(-1, -1), texts(4097, -1), texts(0, 4097), texts(0, -2), texts(0, -1, "a", "*"), texts(0, -1, "\xFF"), texts(0, -1, "a{21}"), texts(3, 2, "("), texts(0, -1, copies(9, "a*")...)} {
		for at := range 20 {
			l := copies(20, texts(0, -1, "a"))
			l[at] = x
			may(t, these(api.Type{Texts: l}), api.ErrArg)
		}
	}
}

// Types may lead to one another and to themselves.
func TestMayOfRounds(t *testing.T) {
	may(t, these(ofArrays(arr(0, 0, -1))), api.OK)
	may(t, these(ofArrays(arr(0, 1, 1, 0, 0))), api.OK)
	may(t, these(ofMaps(maps(0, "a0! b0"))), api.OK)
	may(t, these(ofArrays(arr(1, 0, -1, 2)), ofMaps(maps(2, "a0 b1!")), ofArrays(arr(0, 0, -1, 2, 1, 0))), api.OK)
}
