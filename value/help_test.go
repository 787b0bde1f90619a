package value_test

import (
	"math"
	"strconv"
	"strings"
	"testing"

	"entrepot/api"
	"entrepot/float"
	"entrepot/value"
)

const (
	full          = 1<<64 - 1
	high53        = 1<<64 - 1<<11 // a limb of 53 bits that are 1, ahead of noughts
	minusZero     = 1 << 63
	infinity      = 0x7FF0000000000000
	minusInfinity = 0xFFF0000000000000
	two256        = 0x4FF0000000000000
	topWhole      = 0x4FEFFFFFFFFFFFFF // 2^256 - 2^203
)

// kinds is all that there are, by the document's order.
var kinds = []int{api.KNull, api.KBool, api.KInt, api.KFloat, api.KText, api.KBytes, api.KArray, api.KMap}

// notText is bytes that are no text.
var notText = []string{"\xFF", "a\x80", "\xC3", "\xC0\x80", "\xED\xA0\x80", "\xF4\x90\x80\x80", "é\xE2\x82"}

var (
	null   = api.Value{Kind: api.KNull}
	no     = boolean(0)
	yes    = boolean(1)
	isZero = plus(0)
	one    = plus(1)
	half   = floating(bits(0.5))
)

// bits is the float that a number is.
func bits(f float64) uint64 { return math.Float64bits(f) }

func boolean(b uint64) api.Value  { return api.Value{Kind: api.KBool, Bits: b} }
func floating(b uint64) api.Value { return api.Value{Kind: api.KFloat, Bits: b} }
func text(s string) api.Value     { return api.Value{Kind: api.KText, Text: s} }
func raw(s string) api.Value      { return api.Value{Kind: api.KBytes, Text: s} }

// plus and minus are the whole numbers of these limbs, the least one first.
func plus(limbs ...uint64) api.Value {
	v := api.Value{Kind: api.KInt}
	copy(v.Int.N[:], limbs)
	return v
}

func minus(limbs ...uint64) api.Value {
	v := plus(limbs...)
	v.Int.Neg = true
	return v
}

func list(l ...api.Value) api.Value { return api.Value{Kind: api.KArray, List: l} }

// member is a map of one name.
func member(name string, v api.Value) api.Value {
	return api.Value{Kind: api.KMap, Keys: []string{name}, List: []api.Value{v}}
}

// object is a map of names, divided by blanks, to their values.
func object(names string, l ...api.Value) api.Value {
	return api.Value{Kind: api.KMap, Keys: strings.Fields(names), List: l}
}

// many is n times v.
func many(n int, v api.Value) []api.Value {
	l := make([]api.Value, n)
	for i := range l {
		l[i] = v
	}
	return l
}

// wide is a map of n members.
func wide(n int, v api.Value) api.Value {
	return api.Value{Kind: api.KMap, Keys: names(n), List: many(n, v)}
}

// names is n of them that rise.
func names(n int) []string {
	out := make([]string, n)
	for i := range out {
		out[i] = strconv.Itoa(10_000 + i)
	}
	return out
}

// nested is v within n arrays; mapped is v within n maps.
func nested(n int, v api.Value) api.Value {
	for range n {
		v = list(v)
	}
	return v
}

func mapped(n int, v api.Value) api.Value {
	for range n {
		v = member("m", v)
	}
	return v
}

// places is v by itself, and as the first, the last, the deepest part of others.
func places(v api.Value) []api.Value {
	return []api.Value{v, list(v), list(v, null), list(null, list(), one, v), member("a", v), object("a b c", null, list(yes, v), text("x")), nested(8, v), mapped(8, v), nested(3, object("x y", list(), mapped(2, list(null, v))))}
}

// some is values of each kind that may be.
func some() []api.Value {
	return []api.Value{
		null, no, yes,
		isZero, one, minus(1), plus(full), plus(0, 1), minus(1 << 63), minus(1<<63 + 1), plus(full, full, full, full), minus(full, full, full, full),
		half, floating(bits(-0.5)), floating(bits(0.1)), floating(1), floating(minusZero | 1), floating(two256), floating(bits(math.MaxFloat64)), floating(infinity), floating(minusInfinity), floating(float.NaN),
		text(""), text("a"), text("\x00"), text("é€𝄞"), text("\U0010FFFF"), text(strings.Repeat("a", 4096)),
		raw(""), raw("a"), raw("\x00\xFF\x80"), raw("\xED\xA0\x80"), raw(strings.Repeat("\xFF", 4096)),
		list(), list(null), list(one, half, text("x"), raw("x")), list(list(), list(list())), list(many(1000, null)...),
		object(""), member("", null), member("a", member("a", list())), object("a b c", one, text("b"), object("x y", no, yes)), wide(1000, isZero),
		api.Value{Kind: api.KArray, List: []api.Value{}}, api.Value{Kind: api.KMap, Keys: []string{}, List: []api.Value{}},
	}
}

// odd is values that may not be, each by one thing.
func odd() []api.Value {
	out := []api.Value{{}, boolean(2), minus(0), floating(0), floating(bits(1)), text("\xFF"), object("b a", null, null), object("a", null, null), object("a b", null), member("\xFF", null)}
	for _, kind := range []int{-1, 9, 10, 255, 256, 1 << 32, 1<<32 + 1, math.MinInt, math.MaxInt} {
		out = append(out, api.Value{Kind: kind})
	}
	for _, v := range some() {
		for _, w := range foreign(v) {
			out = append(out, w)
		}
	}
	return out
}

// foreign is v with parts that its kind does not name.
func foreign(v api.Value) []api.Value {
	var out []api.Value
	turn := func(named bool, set func(w *api.Value)) {
		if !named {
			w := v
			set(&w)
			out = append(out, w)
		}
	}
	isWhole := v.Kind == api.KInt
	turn(isWhole, func(w *api.Value) { w.Int = api.Int{N: api.Nat{1}} })
	turn(isWhole, func(w *api.Value) { w.Int = api.Int{N: api.Nat{3: 1}} })
	turn(isWhole, func(w *api.Value) { w.Int = api.Int{Neg: true, N: api.Nat{1}} })
	turn(isWhole, func(w *api.Value) { w.Int = api.Int{Neg: true} })
	hasBits := v.Kind == api.KBool || v.Kind == api.KFloat
	turn(hasBits, func(w *api.Value) { w.Bits = 1 })
	turn(hasBits, func(w *api.Value) { w.Bits = bits(0.5) })
	turn(hasBits, func(w *api.Value) { w.Bits = minusZero })
	hasText := v.Kind == api.KText || v.Kind == api.KBytes
	turn(hasText, func(w *api.Value) { w.Text = "x" })
	turn(hasText, func(w *api.Value) { w.Text = "\x00" })
	hasList := v.Kind == api.KArray || v.Kind == api.KMap
	turn(hasList, func(w *api.Value) { w.List = []api.Value{null} })
	turn(v.Kind == api.KMap, func(w *api.Value) { w.Keys = []string{""} })
	turn(v.Kind == api.KMap, func(w *api.Value) { w.Keys = names(len(v.List) + 1) })
	turn(hasList, func(w *api.Value) { w.Keys, w.List = []string{"a"}, []api.Value{null} })
	return out
}

func may(t *testing.T, v api.Value, want int) {
	t.Helper()
	if got := value.May(v); got != want {
		t.Errorf("May(%s) = %d, not %d", brief(v), got, want)
	}
}

// brief is a value that fits into a report.
func brief(v api.Value) string {
	s := "{Kind " + strconv.Itoa(v.Kind)
	if v.Int != (api.Int{}) {
		s += " Int"
		if v.Int.Neg {
			s += " -"
		}
		for _, limb := range v.Int.N {
			s += " " + strconv.FormatUint(limb, 16)
		}
	}
	if v.Bits != 0 {
		s += " Bits " + strconv.FormatUint(v.Bits, 16)
	}
	if len(v.Text) > 20 {
		s += " Text of " + strconv.Itoa(len(v.Text))
	} else if v.Text != "" {
		s += " Text " + strconv.QuoteToASCII(v.Text)
	}
	for i := range min(len(v.Keys), 3) {
		s += " " + strconv.QuoteToASCII(v.Keys[i][:min(len(v.Keys[i]), 20)])
	}
	for i := range min(len(v.List), 3) {
		s += " " + brief(v.List[i])
	}
	if len(v.List) > 3 || len(v.Keys) > 3 {
		s += " .. of " + strconv.Itoa(len(v.Keys)) + ", " + strconv.Itoa(len(v.List))
	}
	return s + "}"
}
