package mix_test

import (
	"fmt"
	"math"
	"math/big"
	"math/rand"
	"reflect"
	"slices"
	"strconv"
	"strings"
	"testing"

	"entrepot/api"
	"entrepot/float"
	"entrepot/mix"
	"entrepot/types"
	"entrepot/value"
	"entrepot/whole"
)

const (
	infinity      = 0x7FF0000000000000
	minusInfinity = 0xFFF0000000000000
	minusZero     = 1 << 63
	two256        = 0x4FF0000000000000
)

var (
	null = api.Value{Kind: api.KNull}
	no   = boolean(0)
	yes  = boolean(1)
	one  = number("1")
	half = floating(0.5)
)

func boolean(b uint64) api.Value   { return api.Value{Kind: api.KBool, Bits: b} }
func number(s string) api.Value    { return api.Value{Kind: api.KInt, Int: num(s)} }
func bits(b uint64) api.Value      { return api.Value{Kind: api.KFloat, Bits: b} }
func floating(f float64) api.Value { return bits(math.Float64bits(f)) }
func word(s string) api.Value      { return api.Value{Kind: api.KText, Text: s} }
func raw(s string) api.Value       { return api.Value{Kind: api.KBytes, Text: s} }

func list(l ...api.Value) api.Value { return api.Value{Kind: api.KArray, List: l} }

// object is a map of names, divided by blanks, to their values.
func object(names string, l ...api.Value) api.Value {
	return api.Value{Kind: api.KMap, Keys: strings.Fields(names), List: l}
}

// member is a map of one name, whatever it is.
func member(name string, v api.Value) api.Value {
	return api.Value{Kind: api.KMap, Keys: []string{name}, List: []api.Value{v}}
}

// copies is n times one.
func copies[T any](n int, one T) []T {
	l := make([]T, n)
	for i := range l {
		l[i] = one
	}
	return l
}

// names is n of them that rise.
func names(n int) []string {
	out := make([]string, n)
	for i := range out {
		out[i] = strconv.Itoa(1_000_000 + i)
	}
	return out
}

// wide is a map of n members.
func wide(n int, v api.Value) api.Value {
	return api.Value{Kind: api.KMap, Keys: names(n), List: copies(n, v)}
}

// nested is v within n arrays; mapped is v within n maps.
func nested(n int, v api.Value) api.Value {
	for range n {
		v = list(v)
	}
	return v
}

func mapped(n int, v api.Value) api.Value {
	for range n {
		v = member("m", v)
	}
	return v
}

// num reads a number: digits, 2^k, max (the greatest of all), - ahead of these, and what is added, if anything: -2^53-1.
func num(s string) api.Int {
	base, more := s, "0"
	if at := strings.LastIndexAny(s, "+-"); at > 0 {
		base, more = s[:at], s[at:]
	}
	digits, neg := strings.CutPrefix(base, "-")
	x := new(big.Int)
	switch {
	case digits == "max":
		x.Sub(x.Lsh(big.NewInt(1), 256), big.NewInt(1))
	case strings.HasPrefix(digits, "2^"):
		k, _ := strconv.Atoi(digits[2:])
		x.Lsh(big.NewInt(1), uint(k))
	default:
		x.SetString(digits, 10)
	}
	if neg {
		x.Neg(x)
	}
	y, _ := new(big.Int).SetString(more, 10)
	a, ok := whole.Parse(x.Add(x, y).String())
	if !ok {
		panic("no number: " + s)
	}
	return a
}

// spans reads spans, divided by blanks: 1..4, 1.., ..4, .., or 5 alone, which is 5..5.
func spans(s string) []api.Span {
	var out []api.Span
	for _, word := range strings.Fields(s) {
		lo, hi, ok := strings.Cut(word, "..")
		if !ok {
			hi = lo
		}
		var one api.Span
		if lo != "" {
			one.HasLo, one.Lo = true, num(lo)
		}
		if hi != "" {
			one.HasHi, one.Hi = true, num(hi)
		}
		out = append(out, one)
	}
	return out
}

func size(least, most int) api.Size { return api.Size{Min: least, Max: most} }

// texts is a set of texts of so many code points.
func texts(least, most int, res ...string) api.Texts {
	return api.Texts{Res: res, Size: size(least, most)}
}

func arr(rest, least, most int, prefix ...int) api.Arr {
	return api.Arr{Prefix: prefix, Rest: rest, Size: size(least, most)}
}

// maps reads fields, divided by blanks: a0 is of type 0, and need not be there; a0! must.
func maps(rest int, fields string) api.Map {
	out := api.Map{Rest: rest}
	for _, f := range strings.Fields(fields) {
		f, must := strings.CutSuffix(f, "!")
		at := strings.IndexAny(f, "-0123456789")
		i, _ := strconv.Atoi(f[at:])
		out.Fields = append(out.Fields, api.Field{Name: f[:at], Type: i, Must: must})
	}
	return out
}

// ofArrays and ofMaps are types of these alone.
func ofArrays(l ...api.Arr) api.Type { return api.Type{Arrays: l} }
func ofMaps(l ...api.Map) api.Type   { return api.Type{Maps: l} }

func these(l ...api.Type) []api.Type { return l }

// everything is a type of all that is a value, as one of a list in which it has that number.
func everything(i int) api.Type {
	return api.Type{Null: true, False: true, True: true, Ints: spans(".."), Floats: api.FAll, Texts: []api.Texts{texts(0, -1)}, Bytes: []api.Size{size(0, -1)}, Arrays: []api.Arr{arr(i, 0, -1)}, Maps: []api.Map{maps(i, "")}}
}

// clones shares no memory with l.
func clones(l []api.Type) []api.Type {
	l = slices.Clone(l)
	for i := range l {
		t := &l[i]
		t.Ints, t.Exact, t.Bytes, t.Texts, t.Arrays, t.Maps = slices.Clone(t.Ints), slices.Clone(t.Exact), slices.Clone(t.Bytes), slices.Clone(t.Texts), slices.Clone(t.Arrays), slices.Clone(t.Maps)
		for k := range t.Texts {
			t.Texts[k].Res = slices.Clone(t.Texts[k].Res)
		}
		for k := range t.Arrays {
			t.Arrays[k].Prefix = slices.Clone(t.Arrays[k].Prefix)
		}
		for k := range t.Maps {
			t.Maps[k].Fields = slices.Clone(t.Maps[k].Fields)
		}
	}
	return l
}

// spoil changes all that is kept behind l.
func spoil(l []api.Type) {
	for i := range l {
		t := &l[i]
		spoilEach(t.Ints, func(s *api.Span) { s.Lo.N[3]++ })
		spoilEach(t.Exact, func(s *api.Span) { s.Lo.N[3]++ })
		spoilEach(t.Bytes, func(s *api.Size) { s.Min++ })
		spoilEach(t.Texts, func(x *api.Texts) {
			spoilEach(x.Res, func(s *string) { *s += "x" })
			x.Size.Min++
			x.Res = nil
		})
		spoilEach(t.Arrays, func(a *api.Arr) {
			spoilEach(a.Prefix, func(i *int) { *i += 1000 })
			a.Rest, a.Prefix = a.Rest+1000, nil
		})
		spoilEach(t.Maps, func(m *api.Map) {
			spoilEach(m.Fields, func(f *api.Field) { f.Name, f.Type, f.Must = f.Name+"x", f.Type+1000, !f.Must })
			m.Rest, m.Fields = m.Rest+1000, nil
		})
		*t = api.Type{Floats: 77}
	}
}

// spoilEach changes what l has, and what may stand behind it in the same memory.
func spoilEach[T any](l []T, change func(*T)) {
	for i := range l[:cap(l)] {
		change(&l[:cap(l)][i])
	}
}

// same is whether lists have the same types, be an empty list in them nil or not.
func same(a, b []api.Type) bool {
	return slices.EqualFunc(a, b, func(x, y api.Type) bool {
		return x.Null == y.Null && x.False == y.False && x.True == y.True && x.Floats == y.Floats &&
			slices.Equal(x.Ints, y.Ints) && slices.Equal(x.Exact, y.Exact) && slices.Equal(x.Bytes, y.Bytes) &&
			slices.EqualFunc(x.Texts, y.Texts, func(x, y api.Texts) bool { return slices.Equal(x.Res, y.Res) && x.Size == y.Size }) &&
			slices.EqualFunc(x.Arrays, y.Arrays, func(x, y api.Arr) bool {
				return slices.Equal(x.Prefix, y.Prefix) && x.Rest == y.Rest && x.Size == y.Size
			}) &&
			slices.EqualFunc(x.Maps, y.Maps, func(x, y api.Map) bool { return slices.Equal(x.Fields, y.Fields) && x.Rest == y.Rest })
	})
}

// cut makes a text fit into a report.
func cut(s string) string {
	s = strings.ToValidUTF8(s, "?")
	if len(s) > 300 {
		return s[:200] + " .. " + s[len(s)-80:]
	}
	return s
}

// show is types in few words.
func show(l []api.Type) string {
	var out strings.Builder
	for i := range l[:min(len(l), 8)] {
		t := &l[i]
		fmt.Fprintf(&out, "%d:", i)
		for _, x := range []struct {
			name  string
			there bool
			v     any
		}{{"null", t.Null, ""}, {"false", t.False, ""}, {"true", t.True, ""}, {"ints", len(t.Ints) > 0, t.Ints}, {"exact", len(t.Exact) > 0, t.Exact}, {"floats", t.Floats != 0, t.Floats}, {"texts", len(t.Texts) > 0, t.Texts}, {"bytes", len(t.Bytes) > 0, t.Bytes}, {"arrays", len(t.Arrays) > 0, t.Arrays}, {"maps", len(t.Maps) > 0, t.Maps}} {
			if x.there {
				fmt.Fprintf(&out, " %s%v", x.name, x.v)
			}
		}
		out.WriteString("; ")
	}
	return cut(out.String()) + " (" + strconv.Itoa(len(l)) + ")"
}

// brief is a value in few words.
func brief(v api.Value) string {
	out := []string{"kind " + strconv.Itoa(v.Kind)}
	if v.Int != (api.Int{}) || v.Kind == api.KInt {
		out = append(out, fmt.Sprint(v.Int))
	}
	if v.Bits != 0 {
		out = append(out, fmt.Sprintf("%#x", v.Bits))
	}
	if v.Text != "" {
		out = append(out, cut(strconv.QuoteToASCII(v.Text)))
	}
	if len(v.Keys) > 0 {
		out = append(out, cut(fmt.Sprintf("%q", v.Keys)))
	}
	for _, e := range v.List[:min(len(v.List), 4)] {
		if value.Depth(v) > 9 {
			break
		}
		out = append(out, brief(e))
	}
	return cut("{" + strings.Join(out, " ") + "} (" + strconv.Itoa(len(v.List)) + ")")
}

func seeded(n int64) *rand.Rand { return rand.New(rand.NewSource(n)) }

func pick[T any](random *rand.Rand, l []T) T { return l[random.Intn(len(l))] }

// named is a value by a name that a table calls it by.
type named struct {
	name string
	v    api.Value
}

// pool is values of each kind, at the edges of what types tell apart.
func pool() []named {
	out := []named{
		{"null", null}, {"false", no}, {"true", yes},
		{"plain", half}, {"-plain", floating(-1.25)}, {"plain64", floating(math.Ldexp(1, -64))}, {"0.1", floating(0.1)},
		{"fine65", floating(math.Ldexp(1, -65))}, {"fine", floating(math.MaxFloat64)}, {"least", bits(1)}, {"2.0^256", bits(two256)}, {"-2.0^256", bits(two256 | minusZero)},
		{"inf", bits(infinity)}, {"-inf", bits(minusInfinity)}, {"nan", bits(float.NaN)},
		{"''", word("")}, {"'a'", word("a")}, {"'aa'", word("aa")}, {"'ab'", word("ab")}, {"'é'", word("é")}, {"'𝄞𝄞'", word("𝄞𝄞")}, {"'aaa'", word("aaa")},
		{"x", raw("")}, {"x41", raw("a")}, {"xFF", raw("\xFF")}, {"xC3A9", raw("é")}, {"x616161", raw("aaa")}, {"xFFFFFF", raw("\xFF\xFF\xFF")},
		{"[]", list()}, {"[null]", list(null)}, {"[1]", list(one)}, {"[1,null]", list(one, null)}, {"[[]]", list(list())},
		{"{}", object("")}, {"{a:null}", object("a", null)}, {"{a:1}", object("a", one)}, {"{a:1,b:null}", object("a b", one, null)}, {"{:1}", member("", one)},
	}
	for _, s := range strings.Fields("0 1 -1 5 6 2^53-1 2^53 2^53+1 2^53+2 -2^53 -2^53-1 2^63-1 2^63 -2^63 -2^63-1 -2^63-2048 2^64-1 2^64 2^64+1 2^64+4096 2^255 max -max -2^255") {
		out = append(out, named{s, number(s)})
	}
	return out
}

// call is Or or And, and what a value is of by it, which is of a or not, of b or not.
type call struct {
	name string
	ask  func(l []api.Type, i, j int) ([]api.Type, int, int)
	of   func(a, b bool) bool
}

var (
	or    = call{"Or", mix.Or, func(a, b bool) bool { return a || b }}
	and   = call{"And", mix.And, func(a, b bool) bool { return a && b }}
	calls = []call{or, and}
)

// mixes holds a call against an error, and against what holds of each answer; it tells the answer.
func mixes(t *testing.T, c call, l []api.Type, i, j, want int) ([]api.Type, int) {
	t.Helper()
	given := clones(l)
	got, k, e := c.ask(given, i, j)
	if e != want || e != api.OK && (len(got) != 0 || k != 0) {
		t.Errorf("%s(%s, %d, %d) = %s, %d, %d, not %d", c.name, show(l), i, j, show(got), k, e, want)
		return nil, 0
	}
	if e == api.OK && (k != len(l) || len(got) <= k || !same(got[:k], l) || types.May(got) != api.OK) {
		t.Fatalf("%s(%s, %d, %d) = %s, %d", c.name, show(l), i, j, show(got), k)
	}
	kept := clones(got)
	apart(t, got)
	again, n, f := c.ask(given, i, j)
	if !reflect.DeepEqual(given, l) {
		t.Errorf("%s(%s, %d, %d): changed", c.name, show(l), i, j)
	}
	spoil(given)
	if !same(again, kept) || n != k || f != e {
		t.Errorf("%s(%s, %d, %d) = %s, %d, %d, later", c.name, show(l), i, j, show(again), n, f)
	}
	return kept, k
}

// apart is whether what one type has is no other's, told by changing them.
func apart(t *testing.T, l []api.Type) {
	t.Helper()
	kept := clones(l)
	for i := range l {
		spoil(l[i : i+1])
		if i+1 < len(l) && !same(l[i+1:], kept[i+1:]) {
			t.Fatalf("%s: type %d shares with one behind it", show(kept), i)
		}
	}
}

// lets holds type i against values that are in it, and values that are not.
func lets(t *testing.T, l []api.Type, i int, in, out []api.Value) {
	t.Helper()
	for _, v := range in {
		if !types.Has(l, i, v) {
			t.Errorf("Has(%s, %d, %s) = false", show(l), i, brief(v))
		}
	}
	for _, v := range out {
		if types.Has(l, i, v) {
			t.Errorf("Has(%s, %d, %s) = true", show(l), i, brief(v))
		}
	}
}

// meets holds And, in both orders, against values of both types, and values that are not.
func meets(t *testing.T, l []api.Type, i, j int, in, out []api.Value) {
	t.Helper()
	got, k := mixes(t, and, l, i, j, api.OK)
	lets(t, got, k, in, out)
	got, k = mixes(t, and, l, j, i, api.OK)
	lets(t, got, k, in, out)
}

// follows holds a call, in both orders, against what Has tells of the two types; it tells how many values are of the answer.
func follows(t *testing.T, c call, l []api.Type, i, j int, values []api.Value) int {
	t.Helper()
	n := 0
	forth, k := mixes(t, c, l, i, j, api.OK)
	back, m := mixes(t, c, l, j, i, api.OK)
	for _, v := range values {
		want := c.of(types.Has(l, i, v), types.Has(l, j, v))
		if types.Has(forth, k, v) != want || types.Has(back, m, v) != want {
			t.Errorf("%s(%s, %d, %d): of %s not %v", c.name, show(l), i, j, brief(v), want)
		}
		if want {
			n++
		}
	}
	return n
}

// these tests' own letters: types 0 of null, 1 of bools, 2 of whole numbers, 3 of all that is null or a text; others stand behind.
func letters(more ...api.Type) []api.Type {
	return append(these(api.Type{Null: true}, api.Type{False: true, True: true}, api.Type{Ints: spans("..")}, api.Type{Null: true, Texts: []api.Texts{texts(0, -1)}}), more...)
}

// row is an array by letters: n null, b a bool, i a whole number, t a text, f a float.
func row(s string) api.Value {
	out := list()
	for _, c := range s {
		out.List = append(out.List, map[rune]api.Value{'n': null, 'b': yes, 'i': one, 't': word("a"), 'f': half}[c])
	}
	return out
}

func rows(s string) []api.Value {
	out := []api.Value{}
	for _, x := range strings.Fields(s) {
		out = append(out, row(strings.Trim(x, "-"))) // - alone is the one without elements
	}
	return out
}

// record is a map by letters, as row, of the names a, b, c ..; a dot is a name that is not there.
func record(s string) api.Value {
	out := api.Value{Kind: api.KMap}
	for i, c := range s {
		if c != '.' {
			out.Keys = append(out.Keys, string(rune('a'+i)))
			out.List = append(out.List, row(string(c)).List[0])
		}
	}
	return out
}

func records(s string) []api.Value {
	out := []api.Value{}
	for _, x := range strings.Fields(s) {
		out = append(out, record(x))
	}
	return out
}

// poolValues is all values of the pool.
func poolValues() []api.Value {
	var out []api.Value
	for _, x := range pool() {
		out = append(out, x.v)
	}
	return out
}

// find is the values of the pool that have these names, divided by blanks, and all others.
func find(t *testing.T, s string) (in, out []api.Value) {
	t.Helper()
	wanted := map[string]int{}
	for _, name := range strings.Fields(s) {
		wanted[name] = 1
	}
	for _, x := range pool() {
		if wanted[x.name] == 1 {
			in = append(in, x.v)
			delete(wanted, x.name)
		} else {
			out = append(out, x.v)
		}
	}
	if len(wanted) > 0 {
		t.Fatal("not in the pool", wanted)
	}
	return in, out
}
