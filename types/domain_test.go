package types_test

import (
	"math"
	"strings"
	"testing"

	"entrepot/api"
	"entrepot/types"
	"entrepot/value"
)

// Promises 13.3, Any and Domain, and 13.4.

var noLanguages = []int{0, -1, -2, 4, 5, 255, 256 + api.JSON, 1<<32 + api.CBOR, 1<<32 + api.Proto, math.MinInt, math.MaxInt}

func TestAny(t *testing.T) {
	all := []api.Texts{texts(0, -1)}
	for lang, want := range map[int]api.Type{
		api.JSON:  {Null: true, False: true, True: true, Ints: spans(".."), Floats: api.FPlain, Texts: all},
		api.CBOR:  {Null: true, False: true, True: true, Ints: spans(".."), Floats: api.FAll, Texts: all, Bytes: []api.Size{size(0, -1)}},
		api.Proto: {False: true, True: true, Ints: spans("-2^63..2^64-1"), Exact: spans(".."), Floats: api.FAll, Texts: all, Bytes: []api.Size{size(0, -1)}},
	} {
		got := types.Any(lang)
		if !same(these(got), these(want)) || types.May(these(got)) != api.OK {
			t.Errorf("Any(%d) = %s, not %s", lang, show(these(got)), show(these(want)))
		}
		spoil(these(got))
		if again := types.Any(lang); !same(these(again), these(want)) {
			t.Errorf("Any(%d) = %s, later", lang, show(these(again)))
		}
	}
	for _, lang := range noLanguages {
		if got := types.Any(lang); !same(these(got), these(api.Type{})) {
			t.Errorf("Any(%d) = %s", lang, show(these(got)))
		}
	}
}

// By values: an Any lets be what its language can say as a part of others, but for arrays and maps.
func TestHasOfAny(t *testing.T) {
	for _, lang := range languages {
		l := these(types.Any(lang))
		for _, x := range pool() {
			want := x.v.Kind != api.KArray && x.v.Kind != api.KMap && value.In(member("a", x.v), lang)
			has(t, l, 0, x.v, want)
		}
	}
}

func TestDomain(t *testing.T) {
	for _, lang := range languages {
		l, i := types.Domain(lang)
		may(t, l, api.OK)
		if i < 0 || i >= len(l) {
			t.Fatalf("Domain(%d): number %d of %d types", lang, i, len(l))
		}
		kept := clones(l)
		spoil(l)
		if again, k := types.Domain(lang); !same(again, kept) || k != i {
			t.Errorf("Domain(%d) = %s, %d, later", lang, show(again), k)
		}
	}
	for _, lang := range noLanguages {
		if l, i := types.Domain(lang); len(l) != 0 || i != 0 {
			t.Errorf("Domain(%d) = %s, %d", lang, show(l), i)
		}
	}
}

// within is v at all places that JSON, CBOR and proto3 tell apart.
func within(v api.Value) []api.Value {
	return []api.Value{
		v, list(v), list(v, one), list(one, v), list(list(v)), list(object("a", v)),
		member("a", v), member("", v), object("a b c", one, v, word("x")), member("a", member("b", v)), member("é", list(v)), member("a", list(one, v, one)), member("a", list(list(v))), member("a", list(list(), v)),
		member("a", list(member("b", v), object(""))), member("a", list(member("b", list(v)))), member("a", list(member("b", list(list(v))))), member("a", member("b", list(v, null))), object("a b", v, null), object("a b", null, v),
		mapped(12, v), mapped(11, list(v)), nested(12, v), member("a", nested(11, v)),
	}
}

// said is values of all kinds that may be, at all places.
func said() []api.Value {
	long := strings.Repeat("a", 4096)
	var out []api.Value
	for _, x := range pool() {
		out = append(out, within(x.v)...)
	}
	for _, v := range []api.Value{word(long), raw(long), member(long, null), list(copies(1000, one)...), list(append(copies(999, one), list())...), list(append(copies(999, one), null)...), wide(1000, half), wide(1000, null), list(object("a b", list(), one), object("c", no))} {
		out = append(out, within(v)...)
	}
	return append(out, mapped(15, one), mapped(15, null), mapped(14, list(raw(""))), mapped(14, list(null)), mapped(13, list(list())), nested(15, bits(infinity)))
}

func TestHasOfDomain(t *testing.T) {
	seen := map[int]map[bool]int{}
	for _, lang := range languages {
		l, i := types.Domain(lang)
		seen[lang] = map[bool]int{}
		for _, v := range said() {
			if e := value.May(v); e != api.OK {
				t.Fatalf("%s: %d", brief(v), e)
			}
			want := value.In(v, lang)
			has(t, l, i, v, want)
			seen[lang][want]++
		}
	}
	if seen[api.JSON][true] < 500 || seen[api.JSON][false] < 300 || seen[api.CBOR][true] < 1000 || seen[api.Proto][true] < 300 || seen[api.Proto][false] < 500 {
		t.Error(seen)
	}
}

func TestHasOfDomainThatChancePutsTogether(t *testing.T) {
	random := seeded(1)
	leaves := pool()
	seen := map[bool]int{}
	for range 20_000 {
		v := scattered(random, leaves, 4)
		if random.Intn(2) == 0 {
			v = member("a", v)
		}
		for _, lang := range languages {
			l, i := types.Domain(lang)
			want := value.In(v, lang)
			has(t, l, i, v, want)
			if lang != api.CBOR {
				seen[want]++
			}
		}
	}
	if seen[true] < 5000 || seen[false] < 5000 {
		t.Error(seen)
	}
}

// What may not be is in no language; its Domain has that of it which may not be for its size or its depth alone.
func TestHasOfDomainOfWhatMayNotBe(t *testing.T) {
	for _, lang := range languages {
		l, i := types.Domain(lang)
		for _, v := range wrongs() {
			for _, w := range append(places(v), within(v)...) {
				has(t, l, i, w, false)
			}
		}
		has(t, l, i, mapped(300, one), true)
		has(t, l, i, member("a", word(strings.Repeat("a", 5000))), true)
		has(t, l, i, wide(3000, list(copies(3, one)...)), true)
		has(t, l, i, mapped(300, raw("")), lang != api.JSON)
		has(t, l, i, mapped(300, null), lang != api.Proto)
		has(t, l, i, nested(300, one), lang != api.Proto)
		has(t, l, i, mapped(300, nested(2, one)), lang != api.Proto)
	}
}
