package value_test

import (
	"math"
	"strings"
	"testing"

	"entrepot/api"
	"entrepot/float"
	"entrepot/value"
)

// Promise 6.3.

// sayings is what JSON can say of a value, and proto3 of it as a map's member.
func sayings() []saying {
	return []saying{
		{null, true, false}, {no, true, true}, {yes, true, true},
		{text(""), true, true}, {text("é\x00𝄞"), true, true}, {text(strings.Repeat("a", 4096)), true, true},
		{raw(""), false, true}, {raw("a"), false, true}, {raw("\xFF"), false, true},
		{half, true, true}, {floating(bits(-0.5)), true, true}, {floating(bits(1<<52 - 0.5)), true, true}, {floating(bits(0.1)), true, true},
		{floating(bits(math.Ldexp(1, -64))), true, true}, {floating(bits(math.Ldexp(3, -64))), true, true}, {floating(bits(1 + math.Ldexp(1, -52))), true, true},
		{floating(bits(math.Ldexp(1, -65))), false, true}, {floating(bits(-math.Ldexp(3, -65))), false, true}, {floating(bits(1e-100)), false, true}, {floating(1), false, true}, {floating(minusZero | 1), false, true},
		{floating(two256), false, true}, {floating(two256 | minusZero), false, true}, {floating(bits(math.MaxFloat64)), false, true},
		{floating(infinity), false, true}, {floating(minusInfinity), false, true}, {floating(float.NaN), false, true},
		{list(), true, true}, {list(null), true, false}, {list(yes, one, half, text("a")), true, true}, {list(raw("a")), false, true}, {list(yes, raw("a")), false, true}, {list(floating(infinity)), false, true},
		{list(list()), true, false}, {list(list(one)), true, false}, {list(one, list()), true, false}, {list(list(raw(""))), false, false}, {list(one, two53(1)), true, true},
		{list(object("")), true, true}, {list(member("a", list())), true, true}, {list(member("a", list(one)), member("b", list(half))), true, true}, {list(member("a", list(list()))), true, false}, {list(member("a", null)), true, false},
		{object(""), true, true}, {member("a", one), true, true}, {member("a", null), true, false}, {member("a", list(list())), true, false}, {member("a", list(object(""), object(""))), true, true},
		{object("a b c", one, list(raw("")), text("")), false, true}, {object("a b c", one, list(raw("")), list(null)), false, false}, {object("a b", member("a", floating(float.NaN)), one), false, true},
		{mapped(12, one), true, true}, {mapped(12, null), true, false}, {mapped(12, raw("")), false, true}, {mapped(11, list(floating(infinity))), false, true}, {mapped(10, list(list())), true, false},
		{list(many(1000, text("a"))...), true, true}, {wide(1000, raw("a")), false, true}, {list(append(many(999, one), null)...), true, false}, {list(append(many(999, one), list())...), true, false},
	}
}

type saying struct {
	v           api.Value
	json, proto bool
}

// two53 is 2^53 and some more.
func two53(more uint64) api.Value { return plus(1<<53 + more) }

// protoNumbers is whole numbers, by whether proto3 can say them.
func protoNumbers() []saying {
	return []saying{
		{isZero, true, true}, {one, true, true}, {minus(1), true, true}, {two53(0), true, true}, {two53(1), true, true}, {minus(1<<53 + 1), true, true},
		{plus(1<<63 - 1), true, true}, {plus(1 << 63), true, true}, {plus(1<<63 + 1), true, true}, {plus(full - 1), true, true}, {plus(full), true, true},
		{plus(0, 1), true, true}, {plus(1, 1), true, false}, {plus(1<<11, 1), true, false}, {plus(1<<12, 1), true, true}, {plus(1<<11|1<<12, 1), true, false}, {plus(full, 1), true, false}, {plus(0, 2), true, true}, {plus(0, full), true, false},
		{minus(1<<63 - 1), true, true}, {minus(1 << 63), true, true}, {minus(1<<63 + 1), true, false}, {minus(1<<63 + 1<<10), true, false}, {minus(1<<63 + 1<<11), true, true}, {minus(full), true, false}, {minus(0, 1), true, true}, {minus(1, 1), true, false},
		{plus(0, 0, 0, 1<<63), true, true}, {plus(1, 0, 0, 1<<63), true, false}, {plus(0, 0, 0, high53), true, true}, {minus(0, 0, 0, high53), true, true},
		{plus(1, 0, 0, high53), true, false}, {plus(0, 0, 0, high53|1<<10), true, false}, {plus(full, full, full, full), true, false}, {minus(full, full, full, full), true, false},
	}
}

func TestIn(t *testing.T) {
	for _, s := range append(sayings(), protoNumbers()...) {
		in(t, s.v, s.json, true, s.proto && s.v.Kind == api.KMap)
		in(t, list(s.v), s.json, true, false)
		in(t, member("a", s.v), s.json, true, s.proto)
		in(t, object("a b c", one, s.v, yes), s.json, true, s.proto)
		in(t, member("a", member("b", s.v)), s.json, true, s.proto)
		in(t, member("a", list(member("b", s.v), object(""))), s.json, true, s.proto)
		in(t, member("a", list(one, s.v)), s.json, true, s.proto && s.v.Kind != api.KArray)
	}
}

// Sixteen levels can be said, seventeen nowhere.
func TestInAsDeepAsMayBe(t *testing.T) {
	in(t, mapped(15, one), true, true, true)
	in(t, mapped(15, null), true, true, false)
	in(t, mapped(15, raw("")), false, true, true)
	in(t, mapped(14, list(half)), true, true, true)
	in(t, nested(15, one), true, true, false)
	in(t, mapped(16, one), false, false, false)
	in(t, mapped(15, list(one)), false, false, false)
	in(t, nested(16, one), false, false, false)
}

func TestInOtherLanguages(t *testing.T) {
	for _, lang := range []int{0, -1, -3, 4, 5, 255, 256 + api.JSON, 1<<32 + api.CBOR, 1<<32 + api.Proto, math.MinInt, math.MaxInt} {
		for _, v := range append(some(), object(""), member("a", one)) {
			if value.In(v, lang) {
				t.Errorf("In(%s, %d)", brief(v), lang)
			}
		}
	}
}

func TestWhatMayNotBeIsInNone(t *testing.T) {
	wrong := append(odd(), text(strings.Repeat("a", 4097)), list(many(1001, one)...), wide(1001, one), nested(16, one), mapped(16, one), list(many(10, list(many(1000, one)...))...), wide(10, wide(1000, one)))
	for _, v := range wrong {
		for _, w := range places(v) {
			in(t, w, false, false, false)
		}
	}
}

func in(t *testing.T, v api.Value, json, cbor, proto bool) {
	t.Helper()
	if got := [3]bool{value.In(v, api.JSON), value.In(v, api.CBOR), value.In(v, api.Proto)}; got != [3]bool{json, cbor, proto} {
		t.Errorf("In(%s, ..) = %v of JSON, CBOR, Proto, not %v", brief(v), got, [3]bool{json, cbor, proto})
	}
}
