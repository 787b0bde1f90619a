package value_test

import (
	"math"
	"strings"
	"testing"
	"unsafe"

	"entrepot/api"
	"entrepot/float"
	"entrepot/value"
)

// Promise 6.2: Number, Get.

func TestNumber(t *testing.T) {
	for _, c := range []struct {
		bits uint64
		want api.Value
	}{
		{0, isZero}, {minusZero, isZero}, {bits(1), one}, {bits(-1), minus(1)}, {bits(2), plus(2)}, {bits(100), plus(100)}, {bits(-65504), minus(65504)},
		{bits(1 << 53), plus(1 << 53)}, {bits(-(1 << 63)), minus(1 << 63)}, {bits(1 << 64), plus(0, 1)}, {bits(math.Ldexp(3, 190)), plus(0, 0, 3<<62, 0)}, {bits(-math.Ldexp(1, 255)), minus(0, 0, 0, 1<<63)},
		{topWhole, plus(0, 0, 0, high53)}, {topWhole | minusZero, minus(0, 0, 0, high53)},
		{two256, floating(two256)}, {two256 | minusZero, floating(two256 | minusZero)}, {bits(math.MaxFloat64), floating(bits(math.MaxFloat64))},
		{bits(0.5), half}, {bits(-0.5), floating(bits(-0.5))}, {bits(0.1), floating(bits(0.1))}, {bits(1.5), floating(bits(1.5))}, {bits(1<<52 - 0.5), floating(bits(1<<52 - 0.5))}, {1, floating(1)}, {minusZero | 1, floating(minusZero | 1)},
		{infinity, floating(infinity)}, {minusInfinity, floating(minusInfinity)},
		{float.NaN, floating(float.NaN)}, {float.NaN | minusZero, floating(float.NaN)}, {infinity + 1, floating(float.NaN)}, {minusInfinity + 1, floating(float.NaN)}, {full, floating(float.NaN)}, {full >> 1, floating(float.NaN)},
	} {
		if got := value.Number(c.bits); !value.Same(got, c.want) {
			t.Errorf("Number(%#x) = %s, not %s", c.bits, brief(got), brief(c.want))
		}
	}
}

func TestNumberMayBe(t *testing.T) {
	b := uint64(1)
	for i := range 20_000 {
		b = b*6364136223846793005 + 1442695040888963407
		c := b
		if i%2 == 0 { // few digits, so that some are whole
			c &^= 1<<(i/2%53) - 1
		}
		v := value.Number(c)
		may(t, v, api.OK)
		f := math.Float64frombits(c)
		isWhole := f == math.Trunc(f) && math.Abs(f) < math.Ldexp(1, 256)
		if isWhole != (v.Kind == api.KInt) {
			t.Fatalf("Number(%#x) = %s", c, brief(v))
		}
	}
}

func TestGet(t *testing.T) {
	v := object("a aa b é", one, list(null, member("a", half)), object("a b", yes, no), text("x"))
	for _, c := range []struct {
		name string
		want api.Value
	}{{"a", one}, {"aa", list(null, member("a", half))}, {"b", object("a b", yes, no)}, {"é", text("x")}} {
		gets(t, v, c.name, c.want, true)
	}
	for _, name := range []string{"", "A", "ab", "aaa", "c", "a ", "\x00", "e\u0301", "\xFF", "\xC3", strings.Repeat("a", 5000)} {
		gets(t, v, name, api.Value{}, false)
	}
	gets(t, member("", half), "", half, true)
	gets(t, member("", half), "a", api.Value{}, false)
	big := wide(1000, null)
	for i, name := range big.Keys {
		big.List[i] = text(name)
	}
	for _, name := range big.Keys {
		gets(t, big, name, text(name), true)
		gets(t, big, name+"0", api.Value{}, false)
	}
	for _, w := range ladder() {
		gets(t, member("k", w), "k", w, true)
		gets(t, object("j k l", null, w, one), "k", w, true)
	}
}

func TestGetOfNoMap(t *testing.T) {
	for _, v := range some() {
		if v.Kind != api.KMap {
			gets(t, v, "", api.Value{}, false)
			gets(t, v, "a", api.Value{}, false)
		}
	}
	for _, kind := range append(kinds, 0, 9, -1) {
		if kind != api.KMap {
			gets(t, api.Value{Kind: kind, Keys: []string{"a"}, List: []api.Value{one}}, "a", api.Value{}, false)
		}
	}
	gets(t, object(""), "", api.Value{}, false)
	gets(t, list(member("a", one)), "a", api.Value{}, false)
}

// Names that do not rise, or have no value, are no reason to go wrong.
func TestGetOfWhatMayNotBe(t *testing.T) {
	v := object("c a b d e", one, yes, half)
	gets(t, v, "c", one, true)
	gets(t, v, "a", yes, true)
	gets(t, v, "b", half, true)
	gets(t, v, "d", api.Value{}, false)
	gets(t, v, "e", api.Value{}, false)
	gets(t, api.Value{Kind: api.KMap, List: []api.Value{one}}, "", api.Value{}, false)
	gets(t, api.Value{Kind: api.KMap, Keys: []string{""}}, "", api.Value{}, false)
}

func gets(t *testing.T, v api.Value, name string, want api.Value, found bool) {
	t.Helper()
	if got, ok := value.Get(v, name); ok != found || !value.Same(got, want) {
		t.Errorf("Get(%s, %.20q) = %s, %v, not %s, %v", brief(v), name, brief(got), ok, brief(want), found)
	}
}

// What is answered is the caller's own.
func TestGetIsNew(t *testing.T) {
	inner := func() api.Value { return object("a b", list(one, list(null)), member("c", list(half))) }
	v, want := member("m", inner()), member("m", inner())
	got, ok := value.Get(v, "m")
	if !ok || !value.Same(got, inner()) {
		t.Fatalf("Get = %s, %v", brief(got), ok)
	}
	got.Keys[0], got.List[0].List[1].List[0], got.List[1].Keys[0], got.List[1].List[0].List[0] = "x", no, "y", no
	got.List[1].List[0], got.List[0].List[0], got.List[1] = no, no, no
	if !value.Same(v, want) {
		t.Errorf("what Get answers is kept in %s", brief(v))
	}
	long := strings.Repeat("a", 40)
	got, _ = value.Get(member("m", member(long, text(long))), "m")
	if unsafe.StringData(got.Keys[0]) == unsafe.StringData(long) || unsafe.StringData(got.List[0].Text) == unsafe.StringData(long) {
		t.Error("an answer's texts are the argument's")
	}
	shared := list(one, yes)
	got, _ = value.Get(member("m", list(shared, shared)), "m")
	got.List[0].List[0] = no
	if !value.Same(got.List[1], list(one, yes)) {
		t.Error("two lists of one answer are one")
	}
}

// What is handed in is not changed by any call.
func TestNothingIsChanged(t *testing.T) {
	all, again := append(some(), odd()...), append(some(), odd()...)
	for i, v := range all {
		for _, lang := range []int{api.JSON, api.CBOR, api.Proto, 0} {
			value.In(v, lang)
		}
		value.May(v)
		value.Depth(v)
		value.Nodes(v)
		value.Get(v, "a")
		value.Cmp(v, all[len(all)-1-i])
		value.Same(v, all[len(all)-1-i])
	}
	for i := range all {
		if !same(all[i], again[i]) {
			t.Errorf("%s was %s", brief(all[i]), brief(again[i]))
		}
	}
}
