package value_test

import (
	"cmp"
	"math"
	"slices"
	"strings"
	"testing"

	"entrepot/api"
	"entrepot/float"
	"entrepot/value"
)

// Promises 6.2 (Same, Cmp) and 6.4.

// ladder is values that may be, each one above those ahead of it.
func ladder() []api.Value {
	var out []api.Value
	out = append(out, null, no, yes)
	out = append(out, wholeLadder()...)
	for _, b := range floatLadder() {
		out = append(out, floating(b))
	}
	for _, s := range []string{"", "\x00", "\x00\x00", "\x01", "10", "9", "A", "AB", "B", "Z", "a", "a\x00", "aa", "ab", "b", "é", "€", "\uE000", "\uFFFD", "\U00010000", strings.Repeat("\U0010FFFF", 1024)} {
		out = append(out, text(s))
	}
	for _, s := range []string{"", "\x00", "\x00\xFF", "\x01", "9", "a", "a\x00", "b", "\x7F", "\x80", "\xC3\xA9", "\xED\xA0\x80", "\xFF", "\xFF\x00", "\xFF\xFF"} {
		out = append(out, raw(s))
	}
	out = append(out, arrayLadder()...)
	return append(out, mapLadder()...)
}

func wholeLadder() []api.Value {
	return []api.Value{
		minus(full, full, full, full), minus(0, 0, 0, 1), minus(full, full, 1), minus(0, 1), minus(full), minus(1<<63 + 1), minus(1 << 63), minus(2), minus(1),
		isZero, one, plus(2), plus(10), plus(1 << 53), plus(1<<53 + 1), plus(1<<63 - 1), plus(1 << 63), plus(full), plus(0, 1), plus(1, 1), plus(0, 2), plus(full, full), plus(0, 0, 1), plus(full, 0, 0, 1), plus(0, 1, 0, 1), plus(full, full, full, full),
	}
}

// floatLadder rises by the bits as a number: those with a sign stand behind, the NaN between.
func floatLadder() []uint64 {
	return []uint64{
		1, 2, bits(0.1), bits(0.25), bits(0.5), bits(1.5), bits(2.5), two256, bits(math.MaxFloat64), infinity, float.NaN,
		minusZero | 1, bits(-0.1), bits(-0.5), bits(-1.5), bits(-math.MaxFloat64), minusInfinity,
	}
}

func arrayLadder() []api.Value {
	return []api.Value{
		list(), list(null), list(null, null), list(null, null, null), list(null, no), list(no), list(no, null), list(yes), list(minus(5)), list(one), list(one, null), list(one, one), list(one, raw("")), list(plus(2)), list(plus(2), null),
		list(half), list(text("")), list(text("a"), text("b")), list(text("a"), text("b"), null), list(text("a"), text("c")), list(text("b")), list(raw("a")),
		list(list()), list(list(), null), list(list(), list()), list(list(null)), list(list(null), null), list(list(one)), nested(3, null), nested(4, null), nested(5, null), list(object("")), list(object(""), null), list(member("a", null)), list(member("a", null), null), list(object("a b", null, null)),
	}
}

func mapLadder() []api.Value {
	return []api.Value{
		object(""), member("", null), member("", one), member("\x00", null), member("A", yes), member("a", null), member("a", one), member("a", plus(2)), member("a", text("")), member("a", list()), member("a", list(null)), member("a", object("")), member("a", member("a", null)), member("a", member("b", null)),
		member("a", object("a b", null, null)), member("aa", null), member("b", null), member("é", null), member("\uFFFD", null), member("\U00010000", null),
		object("a b", null, null), object("a b", null, one), object("a b", one, null), object("a b", one, one), object("a b", plus(2), null), object("a c", null, null), object("a c", one, null), object("b c", null, null),
		object("a b c", null, null, null), object("a b c", null, null, no), object("a b c", no, null, null), object("a b d", null, null, null), wide(4, null), wide(5, null), wide(5, no), wide(1000, null),
	}
}

func TestCmpAndSame(t *testing.T) {
	again := ladder()
	for i, a := range ladder() {
		may(t, a, api.OK)
		for j, b := range again {
			if got := value.Cmp(a, b); got != cmp.Compare(i, j) {
				t.Errorf("Cmp(%s, %s) = %d, not %d", brief(a), brief(b), got, cmp.Compare(i, j))
			}
			if got := value.Same(a, b); got != (i == j) {
				t.Errorf("Same(%s, %s) = %v", brief(a), brief(b), got)
			}
		}
	}
}

func TestCmpDeepWithin(t *testing.T) {
	rungs := ladder()
	for i := range len(rungs) - 1 {
		low, high := places(rungs[i]), places(rungs[i+1])
		for k := range low {
			if value.Cmp(low[k], high[k]) != -1 || value.Cmp(high[k], low[k]) != 1 || value.Cmp(low[k], low[k]) != 0 {
				t.Errorf("Cmp(%s, %s) = %d", brief(low[k]), brief(high[k]), value.Cmp(low[k], high[k]))
			}
			if value.Same(low[k], high[k]) || value.Same(high[k], low[k]) || !value.Same(low[k], low[k]) {
				t.Errorf("Same(%s, %s) = %v", brief(low[k]), brief(high[k]), value.Same(low[k], high[k]))
			}
		}
	}
}

// Promise 6.4, of values that are made by a rule.
func TestCmpIsNoughtWhereSameIs(t *testing.T) {
	small := made(2)
	for _, a := range small {
		may(t, a, api.OK)
		for _, b := range small {
			c := value.Cmp(a, b)
			if (c == 0) != value.Same(a, b) || value.Cmp(b, a) != -c || c < -1 || c > 1 {
				t.Fatalf("Cmp(%s, %s) = %d, Same = %v", brief(a), brief(b), c, value.Same(a, b))
			}
		}
	}
	slices.SortFunc(small, value.Cmp)
	for i := range small {
		for _, b := range small[i:] {
			if value.Cmp(small[i], b) > 0 {
				t.Fatalf("%s ahead of %s", brief(small[i]), brief(b))
			}
		}
	}
}

// made is scalars, and lists and maps of up to two of what is less deep.
func made(levels int) []api.Value {
	out := []api.Value{null, yes, one, half, text("a"), raw("a"), list(), object("")}
	if levels == 0 {
		return out[:3]
	}
	inner := made(levels - 1)
	for _, a := range inner {
		out = append(out, list(a), member("a", a), member("b", a))
		for _, b := range inner {
			if levels == 1 || a.Kind >= api.KArray && b.Kind != api.KBool {
				out = append(out, list(a, b), object("a b", a, b))
			}
		}
	}
	return out
}

func TestSameOfEmptyAndNil(t *testing.T) {
	for _, v := range some() {
		w := v
		if len(w.Keys) == 0 {
			w.Keys = []string{}
		}
		if len(w.List) == 0 {
			w.List = []api.Value{}
		}
		here, there := places(v), places(w)
		for i := range here {
			if !value.Same(here[i], there[i]) || !value.Same(there[i], here[i]) || value.Cmp(here[i], there[i]) != 0 {
				t.Errorf("%s: a nil list is not an empty one", brief(here[i]))
			}
		}
	}
}

// Same asks for all parts, whether they may be or not.
func TestSameInAllParts(t *testing.T) {
	for _, v := range append(some(), odd()...) {
		if !value.Same(v, v) {
			t.Errorf("Same of %s and itself is false", brief(v))
		}
		for _, w := range foreign(v) {
			here, there := places(v), places(w)
			for i := range here {
				if same(v, w) { // foreign has turned a part to what it already was
					continue
				}
				if value.Same(here[i], there[i]) || value.Same(there[i], here[i]) {
					t.Errorf("Same(%s, %s)", brief(here[i]), brief(there[i]))
				}
			}
		}
	}
	for _, c := range [][2]api.Value{
		{isZero, minus(0)}, {one, minus(1)}, {plus(0, 1), plus(1)}, {plus(0, 0, 0, 1), plus()}, {floating(0), floating(minusZero)}, {floating(float.NaN), floating(float.NaN + 1)}, {floating(float.NaN), floating(float.NaN | minusZero)},
		{one, floating(bits(1))}, {no, isZero}, {text("a"), raw("a")}, {text(""), raw("")}, {list(), object("")}, {list(null), member("", null)}, {api.Value{}, null}, {api.Value{Kind: 9}, api.Value{Kind: 10}},
		{object("a b", null, one), object("b a", one, null)}, {object("a", null, one), object("a", null)}, {object("a b", null), object("a", null)}, {text("é"), text("e\u0301")},
	} {
		if value.Same(c[0], c[1]) || value.Same(c[1], c[0]) {
			t.Errorf("Same(%s, %s)", brief(c[0]), brief(c[1]))
		}
	}
	if nan := floating(float.NaN); !value.Same(list(nan), list(nan)) {
		t.Error("the NaN is not the same")
	}
}

// same is what Same should be.
func same(a, b api.Value) bool {
	return a.Kind == b.Kind && a.Int == b.Int && a.Bits == b.Bits && a.Text == b.Text && slices.Equal(a.Keys, b.Keys) && slices.EqualFunc(a.List, b.List, same)
}

// Of what may not be, too, all calls answer.
func TestCmpOfWhatMayNotBe(t *testing.T) {
	all := append(some(), odd()...)
	for _, a := range all {
		for _, b := range all {
			c := value.Cmp(a, b)
			if c < -1 || c > 1 || value.Cmp(b, a) != -c {
				t.Fatalf("Cmp(%s, %s) = %d", brief(a), brief(b), c)
			}
			if a.Kind != b.Kind && c != cmp.Compare(a.Kind, b.Kind) {
				t.Fatalf("Cmp(%s, %s) = %d: not by Kind", brief(a), brief(b), c)
			}
		}
	}
	deep := nested(1<<16-2, null)
	if value.Cmp(list(deep), list(deep)) != 0 || value.Cmp(list(deep), deep) != 1 || !value.Same(list(deep), list(deep)) || value.Same(list(deep), deep) {
		t.Error("very deep ones")
	}
}
