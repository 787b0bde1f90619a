package value_test

import (
	"math"
	"strings"
	"testing"

	"entrepot/api"
	"entrepot/float"
	"entrepot/value"
)

// Promise 6.1.

func TestMayBe(t *testing.T) {
	for _, v := range some() {
		for _, w := range places(v) {
			may(t, w, api.OK)
		}
	}
	may(t, list(some()...), api.OK)
	may(t, object("null bool", null, yes), api.ErrArg)
	may(t, object("bool null", yes, null), api.OK)
}

func TestEmptyIsNil(t *testing.T) {
	for _, v := range some() {
		if len(v.Keys) == 0 {
			v.Keys = []string{}
		}
		if len(v.List) == 0 {
			v.List = []api.Value{}
		}
		for _, w := range places(v) {
			may(t, w, api.OK)
		}
	}
}

func TestOtherKinds(t *testing.T) {
	for _, kind := range []int{0, -1, -8, 9, 10, 16, 255, 256, 257, 1 << 32, 1<<32 + 1, math.MinInt, math.MinInt + 1, math.MaxInt} {
		for _, v := range places(api.Value{Kind: kind}) {
			may(t, v, api.ErrArg)
		}
	}
}

func TestForeignParts(t *testing.T) {
	for _, v := range some() {
		for _, w := range foreign(v) {
			for _, x := range places(w) {
				may(t, x, api.ErrArg)
			}
		}
	}
	if n := len(foreign(null)); n != 13 {
		t.Errorf("null has %d foreign parts", n)
	}
}

func TestScalarsThatMayNotBe(t *testing.T) {
	wrong := []api.Value{minus(0), minus()}
	for _, b := range []uint64{2, 3, 255, 256, 1 << 32, 1 << 63, full} {
		wrong = append(wrong, boolean(b))
	}
	for _, f := range []float64{0, math.Copysign(0, -1), 1, -1, 2, 1e15, 1 << 53, -(1 << 62), math.Ldexp(1, 255), -math.Ldexp(1, 255)} {
		wrong = append(wrong, floating(bits(f)))
	}
	for _, b := range []uint64{topWhole, topWhole | minusZero, float.NaN + 1, float.NaN | minusZero, infinity + 1, minusInfinity + 1, full, full >> 1} {
		wrong = append(wrong, floating(b))
	}
	for _, s := range notText {
		wrong = append(wrong, text(s), text("aé"+s), text(s+"a"), member(s, null), member("a"+s, null))
		may(t, raw(s), api.OK)
	}
	for _, v := range wrong {
		for _, w := range places(v) {
			may(t, w, api.ErrArg)
		}
	}
}

func TestKeys(t *testing.T) {
	rising := []string{"", "\x00", "\x00\x00", "\x01", "0", "10", "9", "A", "B", "Z", "Za", "a", "a\x00", "aa", "ab", "b", "é", "é€", "€", "\uE000", "\uFFFD", "\U00010000", "\U0010FFFF"}
	v := api.Value{Kind: api.KMap, Keys: rising, List: many(len(rising), null)}
	may(t, v, api.OK)
	for i, first := range rising {
		for j, second := range rising {
			want := api.ErrArg
			if i < j {
				want = api.OK
			}
			for _, w := range places(api.Value{Kind: api.KMap, Keys: []string{first, second}, List: []api.Value{one, null}}) {
				may(t, w, want)
			}
		}
	}
	for _, s := range []string{"a a", "a b b", "a c b", "b c a", "a b c d e g f", "a b a"} {
		may(t, object(s, many(len(strings.Fields(s)), null)...), api.ErrArg)
	}
	may(t, object("a\xFF a\xFF\xFF", null, null), api.ErrArg)
}

func TestKeysAsManyAsList(t *testing.T) {
	for keys := range 5 {
		for items := range 5 {
			want := api.ErrArg
			if keys == items {
				want = api.OK
			}
			for _, v := range places(api.Value{Kind: api.KMap, Keys: names(keys), List: many(items, null)}) {
				may(t, v, want)
			}
		}
	}
	may(t, api.Value{Kind: api.KMap, Keys: names(1000)}, api.ErrArg)
	may(t, api.Value{Kind: api.KMap, List: many(1000, null)}, api.ErrArg)
	may(t, api.Value{Kind: api.KMap, Keys: names(999), List: many(1000, null)}, api.ErrArg)
}

func TestDepths(t *testing.T) {
	for _, v := range some() {
		own := value.Depth(v)
		for n := range 20 {
			want := api.OK
			if own+n > 16 {
				want = api.ErrDepth
			}
			for _, w := range []api.Value{nested(n, v), mapped(n, v), mapped(n/2, nested(n-n/2, v)), nested(n/2, mapped(n-n/2, v))} {
				may(t, w, want)
				if got := value.Depth(w); got != own+n {
					t.Errorf("Depth(%s) = %d, not %d", brief(w), got, own+n)
				}
			}
		}
	}
	may(t, list(nested(14, null), null, nested(14, null)), api.OK)
	may(t, list(null, nested(14, null)), api.OK)
	may(t, list(null, list(), nested(15, null)), api.ErrDepth)
	may(t, list(nested(15, null), null), api.ErrDepth)
	may(t, nested(15, list()), api.OK)
	may(t, nested(16, list()), api.ErrDepth)
	may(t, nested(15, list(null)), api.ErrDepth)
	may(t, nested(1<<16-1, null), api.ErrDepth)
}

func TestDepthAndNodes(t *testing.T) {
	for _, c := range []struct {
		v            api.Value
		depth, nodes int
	}{
		{api.Value{}, 1, 1}, {null, 1, 1}, {half, 1, 1}, {text("ab"), 1, 1}, {list(), 1, 1}, {object(""), 1, 1},
		{list(null), 2, 2}, {list(null, null, null), 2, 4}, {object("a b", null, one), 2, 3}, {member("a", list()), 2, 2},
		{list(list(), list(null), null), 3, 5}, {list(null, nested(3, null), list(null)), 5, 8}, {object("a b", list(one, one), mapped(4, one)), 6, 9},
		{api.Value{List: many(2, null)}, 2, 3}, {api.Value{Kind: api.KNull, List: many(2, list(null))}, 3, 5}, // by List, whatever the kind is
		{api.Value{Kind: api.KMap, Keys: names(5)}, 1, 1}, {api.Value{Kind: api.KMap, Keys: names(5), List: many(2, null)}, 2, 3},
		{nested(1<<16-1, null), 1 << 16, 1 << 16}, {list(many(100_000, null)...), 2, 100_001}, {list(many(1000, list(many(1000, null)...))...), 3, 1_001_001},
	} {
		if depth, nodes := value.Depth(c.v), value.Nodes(c.v); depth != c.depth || nodes != c.nodes {
			t.Errorf("%s: Depth %d, not %d; Nodes %d, not %d", brief(c.v), depth, c.depth, nodes, c.nodes)
		}
	}
}

func TestNodes(t *testing.T) {
	thousand := list(many(999, null)...)
	nine := many(9, thousand)
	for _, c := range []struct {
		v     api.Value
		nodes int
	}{
		{list(append(nine, list(many(998, null)...))...), 10_000},
		{list(append(nine, thousand)...), 10_001},
		{list(append(nine, wide(998, one))...), 10_000},
		{list(append(nine, wide(999, one))...), 10_001},
		{list(append([]api.Value{wide(998, one)}, nine...)...), 10_000},
		{list(append([]api.Value{wide(999, one)}, nine...)...), 10_001},
		{object("a b", list(many(8, thousand)...), list(many(998, list(null))...)), 9_999},
		{object("a b", list(many(8, thousand)...), list(many(999, list(null))...)), 10_001},
		{object("a b c", list(many(8, thousand)...), list(many(998, list(null))...), null), 10_000},
		{object("a b c", list(many(8, thousand)...), list(many(998, list(null))...), list(null)), 10_001},
		{list(many(1000, list(many(9, no)...))...), 10_001},
		{list(many(999, list(many(9, no)...))...), 9_991},
		{list(append(many(999, list(many(9, no)...)), list(many(8, no)...))...), 10_000},
		{list(many(1000, list(many(1000, no)...))...), 1_001_001},
	} {
		want := api.OK
		if c.nodes > 10_000 {
			want = api.ErrLimit
		}
		may(t, c.v, want)
		if got := value.Nodes(c.v); got != c.nodes {
			t.Errorf("Nodes(%s) = %d, not %d", brief(c.v), got, c.nodes)
		}
	}
}

func TestItems(t *testing.T) {
	for _, c := range []struct {
		n, want int
	}{{0, api.OK}, {999, api.OK}, {1000, api.OK}, {1001, api.ErrLimit}, {1002, api.ErrLimit}, {5000, api.ErrLimit}} {
		for _, e := range []api.Value{null, one, text("")} {
			for _, v := range append(places(list(many(c.n, e)...)), places(wide(c.n, e))...) {
				may(t, v, c.want)
			}
		}
	}
	may(t, api.Value{Kind: api.KMap, Keys: names(1001), List: many(1000, null)}, api.ErrLimit)
	may(t, api.Value{Kind: api.KMap, Keys: names(1000), List: many(1001, null)}, api.ErrLimit)
}

func TestLongTexts(t *testing.T) {
	for _, c := range []struct {
		s    string
		want int
	}{
		{strings.Repeat("a", 4095), api.OK}, {strings.Repeat("a", 4096), api.OK}, {strings.Repeat("a", 4097), api.ErrLimit},
		{strings.Repeat("é", 2048), api.OK}, {strings.Repeat("é", 2048) + "a", api.ErrLimit}, {strings.Repeat("𝄞", 1024), api.OK}, {strings.Repeat("𝄞", 1025), api.ErrLimit},
		{strings.Repeat("\x00", 4096), api.OK}, {strings.Repeat("\x00", 4097), api.ErrLimit}, {strings.Repeat("é", 100_000), api.ErrLimit},
	} {
		for _, v := range []api.Value{text(c.s), raw(c.s), member(c.s, null), {Kind: api.KMap, Keys: []string{"", c.s}, List: many(2, list())}} {
			for _, w := range places(v) {
				may(t, w, c.want)
			}
		}
	}
}

func TestFirstErrorIsTold(t *testing.T) {
	long, wrong := text(strings.Repeat("a", 4097)), api.Value{}
	crowd := list(many(1001, null)...)
	tooMany := list(many(10, crowd)...)
	tooDeep := nested(15, null)
	for _, c := range []struct {
		want int
		l    []api.Value
	}{
		{api.ErrDepth, []api.Value{tooDeep, long}}, {api.ErrDepth, []api.Value{long, tooDeep}},
		{api.ErrDepth, []api.Value{tooDeep, wrong}}, {api.ErrDepth, []api.Value{wrong, tooDeep}},
		{api.ErrDepth, []api.Value{tooDeep, crowd}}, {api.ErrDepth, []api.Value{crowd, tooDeep}},
		{api.ErrDepth, []api.Value{tooDeep, tooMany}}, {api.ErrDepth, []api.Value{tooMany, tooDeep}},
		{api.ErrDepth, []api.Value{wrong, tooMany, long, crowd, tooDeep}},
		{api.ErrDepth, []api.Value{nested(16, wrong)}}, {api.ErrDepth, []api.Value{nested(16, long)}}, {api.ErrDepth, []api.Value{nested(15, crowd)}},
		{api.ErrLimit, []api.Value{long, wrong}}, {api.ErrLimit, []api.Value{wrong, long}},
		{api.ErrLimit, []api.Value{crowd, wrong}}, {api.ErrLimit, []api.Value{wrong, crowd}},
		{api.ErrLimit, []api.Value{tooMany, wrong}}, {api.ErrLimit, []api.Value{wrong, tooMany}},
		{api.ErrLimit, []api.Value{list(many(1001, wrong)...)}}, {api.ErrLimit, []api.Value{text(strings.Repeat("\xFF", 4097))}},
		{api.ErrLimit, []api.Value{member(strings.Repeat("\xFF", 4097), null)}}, {api.ErrLimit, []api.Value{wide(1001, wrong)}},
		{api.ErrLimit, []api.Value{{Kind: api.KBytes, Text: long.Text, Bits: 1}}}, {api.ErrLimit, []api.Value{{Kind: api.KMap, Keys: []string{long.Text}}}},
		{api.ErrLimit, []api.Value{{Kind: api.KNull, List: []api.Value{long}}}}, {api.ErrDepth, []api.Value{{Kind: api.KNull, List: []api.Value{tooDeep}}}},
		{api.ErrLimit, []api.Value{list(many(10, list(many(1000, wrong)...))...)}},
		{api.ErrArg, []api.Value{null, wrong}}, {api.ErrArg, []api.Value{wrong, nested(14, null)}}, {api.ErrArg, []api.Value{nested(14, wrong)}},
	} {
		may(t, list(c.l...), c.want)
		may(t, wrapped(c.l), c.want)
	}
}

// wrapped is a map of these, by names in their order.
func wrapped(l []api.Value) api.Value {
	return api.Value{Kind: api.KMap, Keys: names(len(l)), List: l}
}

// A text, bytes, a name, items are such by their kind: in others they are parts that should be zero.
func TestLimitsOfForeignParts(t *testing.T) {
	long := strings.Repeat("a", 4097)
	for _, kind := range append(kinds, 0, 9) {
		if kind != api.KText && kind != api.KBytes {
			may(t, api.Value{Kind: kind, Text: long}, api.ErrArg)
		}
		if kind != api.KMap {
			may(t, api.Value{Kind: kind, Keys: []string{long}}, api.ErrArg)
			may(t, api.Value{Kind: kind, Keys: names(1001)}, api.ErrArg)
		}
		if kind != api.KMap && kind != api.KArray {
			may(t, api.Value{Kind: kind, List: many(1001, null)}, api.ErrArg)
		}
	}
}

// What holds the same list many times is told without going through all of it.
func TestMayEndsSoon(t *testing.T) {
	v := null
	for range 60 {
		v = list(v, v)
	}
	may(t, v, api.ErrDepth)
	for range 3 {
		may(t, list(null, v, null), api.ErrDepth)
	}
	wideOne := list(many(1000, list(many(1000, null)...))...)
	may(t, list(many(20, wideOne)...), api.ErrLimit)
}
