package incl_test

import (
	"fmt"
	"math"
	"math/big"
	"math/rand"
	"reflect"
	"slices"
	"strconv"
	"strings"
	"testing"

	"entrepot/api"
	"entrepot/incl"
	"entrepot/types"
	"entrepot/value"
	"entrepot/whole"
)

const (
	infinity      = 0x7FF0000000000000
	minusInfinity = 0xFFF0000000000000
	enough        = 1 << 22
	noType        = -1 // asked as b: Empty is asked
)

var (
	null = api.Value{Kind: api.KNull}
	no   = boolean(0)
	yes  = boolean(1)
	one  = number("1")
	half = floating(0.5)
)

func boolean(b uint64) api.Value   { return api.Value{Kind: api.KBool, Bits: b} }
func number(s string) api.Value    { return api.Value{Kind: api.KInt, Int: num(s)} }
func bits(b uint64) api.Value      { return api.Value{Kind: api.KFloat, Bits: b} }
func floating(f float64) api.Value { return bits(math.Float64bits(f)) }
func word(s string) api.Value      { return api.Value{Kind: api.KText, Text: s} }
func raw(s string) api.Value       { return api.Value{Kind: api.KBytes, Text: s} }

func list(l ...api.Value) api.Value { return api.Value{Kind: api.KArray, List: l} }

// object is a map of names, divided by blanks, to their values.
func object(names string, l ...api.Value) api.Value {
	return api.Value{Kind: api.KMap, Keys: strings.Fields(names), List: l}
}

// num reads a number: digits, 2^k, max (the greatest of all), - ahead of these, and what is added, if anything: -2^53-1.
func num(s string) api.Int {
	base, more := s, "0"
	if at := strings.LastIndexAny(s, "+-"); at > 0 {
		base, more = s[:at], s[at:]
	}
	digits, neg := strings.CutPrefix(base, "-")
	x := new(big.Int)
	switch {
	case digits == "max":
		x.Sub(x.Lsh(big.NewInt(1), 256), big.NewInt(1))
	case strings.HasPrefix(digits, "2^"):
		k, _ := strconv.Atoi(digits[2:])
		x.Lsh(big.NewInt(1), uint(k))
	default:
		x.SetString(digits, 10)
	}
	if neg {
		x.Neg(x)
	}
	y, _ := new(big.Int).SetString(more, 10)
	a, ok := whole.Parse(x.Add(x, y).String())
	if !ok {
		panic("no number: " + s)
	}
	return a
}

// spans reads spans, divided by blanks: 1..4, 1.., ..4, .., or 5 alone, which is 5..5.
func spans(s string) []api.Span {
	var out []api.Span
	for _, word := range strings.Fields(s) {
		lo, hi, ok := strings.Cut(word, "..")
		if !ok {
			hi = lo
		}
		var one api.Span
		if lo != "" {
			one.HasLo, one.Lo = true, num(lo)
		}
		if hi != "" {
			one.HasHi, one.Hi = true, num(hi)
		}
		out = append(out, one)
	}
	return out
}

func size(least, most int) api.Size { return api.Size{Min: least, Max: most} }

// texts is a set of texts of so many code points.
func texts(least, most int, res ...string) api.Texts {
	return api.Texts{Res: res, Size: size(least, most)}
}

func arr(rest, least, most int, prefix ...int) api.Arr {
	return api.Arr{Prefix: prefix, Rest: rest, Size: size(least, most)}
}

// maps reads fields, divided by blanks: a0 is of type 0, and need not be there; a0! must.
func maps(rest int, fields string) api.Map {
	out := api.Map{Rest: rest}
	for _, f := range strings.Fields(fields) {
		f, must := strings.CutSuffix(f, "!")
		at := strings.IndexAny(f, "0123456789")
		i, _ := strconv.Atoi(f[at:])
		out.Fields = append(out.Fields, api.Field{Name: f[:at], Type: i, Must: must})
	}
	return out
}

// types of one part alone.
func ofInts(s string) api.Type                  { return api.Type{Ints: spans(s)} }
func ofExact(s string) api.Type                 { return api.Type{Exact: spans(s)} }
func ofFloats(classes int) api.Type             { return api.Type{Floats: classes} }
func ofTexts(l ...api.Texts) api.Type           { return api.Type{Texts: l} }
func ofBytes(least, most int) api.Type          { return api.Type{Bytes: []api.Size{size(least, most)}} }
func ofArrays(l ...api.Arr) api.Type            { return api.Type{Arrays: l} }
func ofMaps(l ...api.Map) api.Type              { return api.Type{Maps: l} }
func these(l ...api.Type) []api.Type            { return l }
func withNull(t api.Type) api.Type              { t.Null = true; return t }
func copies[T any](n int, one T) []T            { return slices.Repeat([]T{one}, n) }
func seeded(n int64) *rand.Rand                 { return rand.New(rand.NewSource(n)) }
func pick[T any](r *rand.Rand, l []T) T         { return l[r.Intn(len(l))] }
func has(l []api.Type, i int, v api.Value) bool { return types.Has(l, i, v) }

// everything is a type of all that is a value, as one of a list in which it has that number.
func everything(i int) api.Type {
	return api.Type{Null: true, False: true, True: true, Ints: spans(".."), Floats: api.FAll, Texts: []api.Texts{texts(0, -1)}, Bytes: []api.Size{size(0, -1)}, Arrays: []api.Arr{arr(i, 0, -1)}, Maps: []api.Map{maps(i, "")}}
}

// cut makes a text fit into a report.
func cut(s string) string {
	s = strings.ToValidUTF8(s, "?")
	if len(s) > 400 {
		return s[:300] + " .. " + s[len(s)-80:]
	}
	return s
}

// show is types in few words.
func show(l []api.Type) string {
	var out strings.Builder
	for i := range l[:min(len(l), 8)] {
		t := &l[i]
		fmt.Fprintf(&out, "%d:", i)
		for _, x := range []struct {
			name  string
			there bool
			v     any
		}{{"null", t.Null, ""}, {"false", t.False, ""}, {"true", t.True, ""}, {"ints", len(t.Ints) > 0, t.Ints}, {"exact", len(t.Exact) > 0, t.Exact}, {"floats", t.Floats != 0, t.Floats}, {"texts", len(t.Texts) > 0, t.Texts}, {"bytes", len(t.Bytes) > 0, t.Bytes}, {"arrays", len(t.Arrays) > 0, t.Arrays}, {"maps", len(t.Maps) > 0, t.Maps}} {
			if x.there {
				fmt.Fprintf(&out, " %s%v", x.name, x.v)
			}
		}
		out.WriteString("; ")
	}
	return cut(out.String()) + " (" + strconv.Itoa(len(l)) + ")"
}

// brief is a value in few words.
func brief(v api.Value) string {
	out := []string{"kind " + strconv.Itoa(v.Kind)}
	if v.Int != (api.Int{}) || v.Kind == api.KInt {
		out = append(out, fmt.Sprint(v.Int))
	}
	if v.Bits != 0 {
		out = append(out, fmt.Sprintf("%#x", v.Bits))
	}
	if v.Text != "" {
		out = append(out, cut(strconv.QuoteToASCII(v.Text)))
	}
	if len(v.Keys) > 0 {
		out = append(out, cut(fmt.Sprintf("%q", v.Keys)))
	}
	for _, e := range v.List[:min(len(v.List), 4)] {
		if value.Depth(v) > 9 {
			break
		}
		out = append(out, brief(e))
	}
	return cut("{" + strings.Join(out, " ") + "} (" + strconv.Itoa(len(v.List)) + ")")
}

func named(verdict int) string {
	switch verdict {
	case api.Yes:
		return "Yes"
	case api.No:
		return "No"
	case api.Unknown:
		return "Unknown"
	}
	return strconv.Itoa(verdict)
}

// ask is Include, or, where b is noType, Empty.
func ask(l []api.Type, a, b, fuel int) (int, api.Value) {
	if b == noType {
		return incl.Empty(l, a, fuel)
	}
	return incl.Include(l, a, b, fuel)
}

// told is an answer, held against what holds of each answer: what is shown, and that it is the same each time.
func told(t *testing.T, l []api.Type, a, b, fuel int) (int, api.Value) {
	t.Helper()
	before := joined(l)
	verdict, v := ask(l, a, b, fuel)
	if !reflect.DeepEqual(before, joined(l)) {
		t.Errorf("%s: %d in %d: changed", show(before), a, b)
	}
	shown(t, l, a, b, verdict, v)
	kept := clone(v)
	spoil(&v)
	again, w := ask(l, a, b, fuel)
	if again != verdict || !value.Same(w, kept) {
		t.Errorf("%s: %d in %d: %s, %s, later", show(l), a, b, named(again), brief(w))
	}
	return verdict, w
}

// joined shares no memory with l.
func joined(l []api.Type) []api.Type {
	out, _ := types.Join(l, nil)
	return out
}

func clone(v api.Value) api.Value {
	v.Keys, v.List = slices.Clone(v.Keys), slices.Clone(v.List)
	for i, x := range v.List {
		v.List[i] = clone(x)
	}
	return v
}

// spoil changes all that stands behind a value.
func spoil(v *api.Value) {
	for i := range v.List {
		spoil(&v.List[i])
		v.List[i] = api.Value{Kind: 77}
	}
	for i := range v.Keys {
		v.Keys[i] += "x"
	}
}

// shown holds what is told beside a verdict against Has.
func shown(t *testing.T, l []api.Type, a, b, verdict int, v api.Value) {
	t.Helper()
	if verdict != api.No {
		if !value.Same(v, api.Value{}) {
			t.Errorf("%s: %d in %d: %s, %s", show(l), a, b, named(verdict), brief(v))
		}
		return
	}
	if value.May(v) != api.OK || !has(l, a, v) || b != noType && has(l, b, v) {
		t.Errorf("%s: %d in %d: No, %s (%d nodes, %d deep)", show(l), a, b, brief(v), value.Nodes(v), value.Depth(v))
	}
}

// asks holds an answer against what it should be; what is shown, too, if it is No.
func asks(t *testing.T, l []api.Type, a, b, want int) api.Value {
	t.Helper()
	got, v := told(t, l, a, b, enough)
	if got != want {
		t.Errorf("%s: %d in %d: %s, %s, not %s", show(l), a, b, named(got), brief(v), named(want))
	}
	return v
}
