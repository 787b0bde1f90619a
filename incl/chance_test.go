package incl_test

import (
	"math/rand"
	"slices"
	"testing"

	"entrepot/api"
	"entrepot/float"
)

// smallScalars is values that tell apart all that smallTypes may tell apart.
func smallScalars() []api.Value {
	out := []api.Value{null, no, yes, half, floating(0x1p-65), bits(infinity), bits(minusInfinity), bits(float.NaN)}
	for _, s := range []string{"-2^53-1", "-2^53-2", "-3", "-2", "-1", "0", "1", "2", "3", "4", "5", "6", "2^53", "2^53+1", "2^53+2", "2^53+3", "2^53+4", "2^60", "2^60+1"} {
		out = append(out, number(s))
	}
	for n := range 7 {
		out = append(out, raw("xxxxxxx"[:n]), word("xxxxxxx"[:n]))
	}
	for _, s := range smallWords() {
		out = append(out, word(s))
	}
	return out
}

func smallWords() []string { return []string{"", "a", "b", "ab", "abc", "é", "ba"} }

// sizeOf is a size of at most most, mostly one that lets something be.
func sizeOf(random *rand.Rand, most int) api.Size {
	s := api.Size{Min: random.Intn(most + 1), Max: random.Intn(most+2) - 1}
	if random.Intn(2) == 0 {
		s.Min = 0
	}
	return s
}

// some is from 0 to n, mostly less; n, if all must be.
func some(random *rand.Rand, n int, full bool) int {
	if full {
		return n
	}
	return min(random.Intn(n+1), random.Intn(n+2))
}

func smallSpans(random *rand.Rand, full bool) []api.Span {
	var out []api.Span
	for range some(random, 2, full) {
		out = append(out, spans(pick(random, []string{"..", "0..", "..0", "1..3", "2..5", "3..1", "-2..2", "2^53+1", "2^53..2^53+3", "2^53+1..", "1..2^53", "..-2^53-1", "4"}))...)
	}
	return out
}

// oneWay is types of 15.2's first kind: each leads to later ones alone.
func oneWay(random *rand.Rand, full bool) []api.Type {
	l := make([]api.Type, 2+random.Intn(4))
	if full {
		l = make([]api.Type, 5)
	}
	for i := range l {
		t := &l[i]
		coin := func() bool { return full || random.Intn(3) > 0 }
		t.Null, t.False, t.True, t.Floats = random.Intn(2) == 0, random.Intn(2) == 0, random.Intn(2) == 0, random.Intn(32)
		t.Ints, t.Exact = smallSpans(random, full), smallSpans(random, full)
		for range some(random, 2, full) {
			x := api.Texts{Size: sizeOf(random, 5)}
			if coin() {
				x.Res = []string{pick(random, smallWords())}
			}
			t.Texts = append(t.Texts, x)
		}
		for range some(random, 2, full) {
			t.Bytes = append(t.Bytes, sizeOf(random, 5))
		}
		later := func() int { return i + 1 + random.Intn(len(l)-i-1) }
		last := i == len(l)-1
		for range some(random, 2, full) {
			a := arr(-1, 0, 0)
			a.Size = sizeOf(random, 3)
			if !last && coin() {
				a.Prefix = []int{later()}
			}
			if !last && random.Intn(3) > 0 {
				a.Rest = later()
			}
			t.Arrays = append(t.Arrays, a)
		}
		for range some(random, 2, full) {
			m := maps(-1, "")
			if !last {
				m = someMap(random, later, coin())
			}
			t.Maps = append(t.Maps, m)
		}
	}
	return l
}

// related is types of 15.2's first kind, as great as it says: 2 has all that 3 and 4 have, 0 and 1 lead to them alone,
// so that the one often has all of the other.
func related(random *rand.Rand) []api.Type {
	l := make([]api.Type, 5)
	for i := 3; i < 5; i++ {
		l[i] = api.Type{Null: i == 3, True: random.Intn(2) == 0, Ints: smallSpans(random, true)[:1], Exact: smallSpans(random, true)[:1], Bytes: []api.Size{sizeOf(random, 5)}, Floats: random.Intn(32)}
		l[i].Texts = []api.Texts{{Res: []string{pick(random, smallWords())}, Size: size(0, pick(random, []int{-1, 3, 5}))}}
		l[i].Arrays = []api.Arr{arr(-1, 0, random.Intn(3)-1)}
		l[i].Maps = []api.Map{maps(-1, "")}
	}
	x, y := l[3], l[4]
	l[2] = api.Type{Null: true, True: x.True || y.True, Floats: x.Floats | y.Floats, Ints: append(slices.Clone(x.Ints), y.Ints...), Exact: append(slices.Clone(x.Exact), y.Exact...), Texts: append(slices.Clone(x.Texts), y.Texts...), Bytes: append(slices.Clone(x.Bytes), y.Bytes...), Arrays: append(slices.Clone(x.Arrays), y.Arrays...), Maps: append(slices.Clone(x.Maps), y.Maps...)}
	for i := range 2 {
		number := func() int { return 2 + max(0, random.Intn(5-i)-2+i) }
		for range 2 {
			l[i].Arrays = append(l[i].Arrays, someArray(random, number, random.Intn(2), 3))
			l[i].Maps = append(l[i].Maps, someMap(random, number, true))
		}
		if i == 0 {
			for range 2 {
				l[i].Arrays[random.Intn(2)].Size.Max = random.Intn(4)
				l[i].Maps[random.Intn(2)].Rest = -1
			}
		}
	}
	return l
}

// someMap has two Fields, if it must, or fewer.
func someMap(random *rand.Rand, number func() int, two bool) api.Map {
	m := api.Map{Rest: -1}
	if random.Intn(3) > 0 {
		m.Rest = number()
	}
	names := [][]string{{"a", "b"}, {"b", "c"}, {"", "a"}, {}, {"a"}, {"b"}}
	if two {
		names = names[:3]
	}
	for _, name := range pick(random, names) {
		m.Fields = append(m.Fields, api.Field{Name: name, Type: number(), Must: random.Intn(3) == 0})
	}
	return m
}

// rounds is types of 15.2's second kind.
func rounds(random *rand.Rand, full bool) []api.Type {
	l := make([]api.Type, 1+random.Intn(5))
	if full {
		l = make([]api.Type, 5)
	}
	for i := range l {
		t := &l[i]
		coin := func() bool { return random.Intn(4) == 0 }
		t.Null, t.False, t.True = coin(), coin(), coin()
		if coin() {
			t.Ints = smallSpans(random, full)
		}
		if coin() {
			t.Floats = random.Intn(32)
		}
		number := func() int { return random.Intn(len(l)) }
		switch kind := random.Intn(5); {
		case kind < 2:
			t.Arrays = []api.Arr{someArray(random, number, some(random, 2, full), 3)}
		case kind < 4 || full:
			t.Maps = []api.Map{someMap(random, number, full)}
		}
	}
	return l
}

// someArray has a Prefix of n.
func someArray(random *rand.Rand, number func() int, n, most int) api.Arr {
	a := api.Arr{Rest: -1, Size: sizeOf(random, most)}
	if random.Intn(4) > 0 {
		a.Rest = number()
	}
	for range n {
		a.Prefix = append(a.Prefix, number())
	}
	return a
}

// wild is types in rounds, of up to so many parts.
func wild(random *rand.Rand, n, parts, prefix, most int) []api.Type {
	l := make([]api.Type, 1+random.Intn(n))
	for i := range l {
		t := &l[i]
		coin := func() bool { return random.Intn(3) == 0 }
		t.Null, t.False, t.True = coin(), coin(), coin()
		number := func() int { return random.Intn(len(l)) }
		for range some(random, parts, false) {
			t.Arrays = append(t.Arrays, someArray(random, number, random.Intn(prefix+1), most))
		}
		for range some(random, parts, false) {
			t.Maps = append(t.Maps, someMap(random, number, false))
		}
	}
	return l
}

// heldAgainstProfiles asks all that can be asked of types that chance puts together, and tells how often it was what.
func heldAgainstProfiles(t *testing.T, seed int64, times int, some func(*rand.Rand) []api.Type) map[int]int {
	t.Helper()
	random := seeded(seed)
	scalars := smallScalars()
	out := map[int]int{}
	for range times {
		l := some(random)
		depths, _ := profilesOf(l, scalars).levels()
		for a := range l {
			for b := noType; b < len(l); b++ {
				got, v := ask(l, a, b, enough)
				shown(t, l, a, b, got, v)
				if want := verdict(depths, a, b); got != want {
					t.Errorf("%s: %d in %d: %s, %s, not %s", show(l), a, b, named(got), brief(v), named(want))
				}
				out[got]++
			}
		}
	}
	return out
}

// Promise 15.2: types of which each leads to later ones alone, small ones and such as are as great as may be.
func TestTypesThatLeadOn(t *testing.T) {
	if told := heldAgainstProfiles(t, 14, 700, related); told[api.Yes] < 2000 || told[api.No] < 2000 || told[api.Unknown] > 0 {
		t.Error(told)
	}
	for _, full := range []bool{false, true} {
		told := heldAgainstProfiles(t, 15, 500, func(random *rand.Rand) []api.Type { return oneWay(random, full) })
		if told[api.Yes] < 1000 || told[api.No] < 1000 || told[api.Unknown] > 0 {
			t.Error(full, told)
		}
	}
}

// Promise 15.2: types that lead to one another and to themselves.
func TestTypesInRounds(t *testing.T) {
	for _, full := range []bool{false, true} {
		told := heldAgainstProfiles(t, 16, 1500, func(random *rand.Rand) []api.Type { return rounds(random, full) })
		if told[api.Yes] < 1000 || told[api.No] < 1000 || told[api.Unknown] > 0 {
			t.Error(full, told)
		}
	}
}

// Promise 15.1: more than 15.2 asks for: types in rounds of several Arrays and Maps each.
func TestTypesInManyRounds(t *testing.T) {
	told := heldAgainstProfiles(t, 17, 1500, func(random *rand.Rand) []api.Type { return wild(random, 4, 4, 2, 3) })
	more := heldAgainstProfiles(t, 18, 300, func(random *rand.Rand) []api.Type { return wild(random, 3, 3, 3, 5) })
	if told[api.Yes] < 1000 || told[api.No] < 1000 || more[api.Yes] < 100 || more[api.No] < 100 || told[api.Unknown]+more[api.Unknown] > 0 {
		t.Error(told, more)
	}
}

// few is one array and one map, as types 0 and 2, and several, as types 1 and 3, by small sets of numbers: where few
// parts are there, much must be tried.
func few(random *rand.Rand) []api.Type {
	l := make([]api.Type, 4)
	for range 6 {
		var t api.Type
		for _, s := range []string{"0", "1", "2", "3"} {
			if random.Intn(3) > 0 {
				t.Ints = append(t.Ints, spans(s)...)
			}
		}
		l = append(l, t)
	}
	all := len(l)
	l = append(l, ofInts("0..3"))
	number := func() int { return 4 + random.Intn(7) }
	n := 1 + random.Intn(3)
	l[0].Arrays = []api.Arr{arr(all, random.Intn(2)*n, n)}
	l[2].Maps = []api.Map{{Rest: -1, Fields: []api.Field{{Name: "a", Type: all, Must: true}, {Name: "b", Type: all, Must: random.Intn(2) == 0}, {Name: "c", Type: all, Must: random.Intn(2) == 0}}[:n]}}
	for range 2 + random.Intn(5) {
		l[1].Arrays = append(l[1].Arrays, someArray(random, number, random.Intn(2)*random.Intn(3), 3))
		l[1].Arrays[len(l[1].Arrays)-1].Size = size(0, random.Intn(2)*(n+1)-1)
		m := api.Map{Rest: number()}
		for _, name := range []string{"a", "b", "c"} {
			if random.Intn(2) == 0 {
				m.Fields = append(m.Fields, api.Field{Name: name, Type: number(), Must: random.Intn(4) == 0})
			}
		}
		l[3].Maps = append(l[3].Maps, m)
	}
	return l
}

// Promise 15.1: few elements, few members, and many parts that they are not to be of.
func TestFewPlaces(t *testing.T) {
	random := seeded(25)
	scalars := smallScalars()
	told := map[int]int{}
	for range 1500 {
		l := few(random)
		depths, _ := profilesOf(l, scalars).levels()
		for a := 0; a < 4; a += 2 {
			want := verdict(depths, a, a+1)
			asks(t, l, a, a+1, want)
			told[want]++
		}
	}
	if told[api.Yes] < 500 || told[api.No] < 500 {
		t.Error(told)
	}
}
