package incl_test

import (
	"math/rand"
	"testing"

	"entrepot/api"
	"entrepot/types"
)

// Promise 15.4: what is told of all values, held against many.

// scattered is a value of some leaves, at most so deep below its root.
func scattered(random *rand.Rand, leaves []api.Value, depth int) api.Value {
	switch {
	case depth == 0 || random.Intn(3) == 0:
		return pick(random, leaves)
	case random.Intn(2) == 0:
		v := list()
		for range random.Intn(4) {
			v.List = append(v.List, scattered(random, leaves, depth-1))
		}
		return v
	}
	v := object("")
	for _, name := range []string{"", "a", "b", "c"} {
		if random.Intn(2) == 0 {
			v.Keys, v.List = append(v.Keys, name), append(v.List, scattered(random, leaves, depth-1))
		}
	}
	return v
}

// someLeaves is few, so that types often have them.
func someLeaves() []api.Value {
	return []api.Value{null, null, no, yes, one, number("2"), number("2^53+1"), number("2^53"), half, bits(infinity), word(""), word("a"), word("aa"), word("b"), word("ab"), raw(""), raw("\xFF"), raw("\xFF\xFF"), list(), object("")}
}

func someNumbers(random *rand.Rand) []api.Span {
	return spans(pick(random, []string{"..", "1", "2^53+1..", "..0 2..", "5..1", "1 3", "1..2 2^53..", "2^53..2^53+2"}))
}

func someTexts(random *rand.Rand) api.Texts {
	x := texts(random.Intn(2), random.Intn(4)-1, pick(random, []string{"a*", ".", "a|b", "", "[ab]*", "a?b?"}))
	if random.Intn(4) == 0 {
		x.Res = nil
	}
	return x
}

// typed is a few types of all kinds, that lead to one another.
func typed(random *rand.Rand) []api.Type {
	l := make([]api.Type, 1+random.Intn(4))
	for i := range l {
		t := &l[i]
		coin := func() bool { return random.Intn(2) > 0 }
		number := func() int { return random.Intn(len(l)) }
		t.Null, t.False, t.True, t.Floats = coin(), coin(), coin(), random.Intn(32)
		if coin() {
			t.Ints = someNumbers(random)
		}
		if coin() {
			t.Exact = someNumbers(random)
		}
		for range random.Intn(3) {
			t.Texts = append(t.Texts, someTexts(random))
		}
		for range random.Intn(3) {
			t.Bytes = append(t.Bytes, size(random.Intn(2), random.Intn(4)-1))
		}
		for range random.Intn(3) {
			t.Arrays = append(t.Arrays, someArray(random, number, random.Intn(3), 3))
		}
		for range random.Intn(3) {
			t.Maps = append(t.Maps, someMap(random, number, false))
		}
	}
	return l
}

// altered makes one part of a type otherwise.
func altered(random *rand.Rand, t *api.Type, n int) {
	number := func() int { return random.Intn(n) }
	switch random.Intn(10) {
	case 0:
		t.Null = !t.Null
	case 1:
		t.Ints = someNumbers(random)
	case 2:
		t.Exact = nil
	case 3:
		t.Floats |= api.FPlain
	case 4:
		t.Texts = append(t.Texts, someTexts(random))
	case 5:
		t.Texts = nil
	case 6:
		t.Bytes = append(t.Bytes, size(1, 2))
	case 7:
		t.Arrays = append(t.Arrays, someArray(random, number, 1, 3))
	case 8:
		t.Maps = append(t.Maps, someMap(random, number, true))
	case 9:
		for k := range t.Maps {
			t.Maps[k].Rest = -1
		}
	}
}

func TestValues(t *testing.T) {
	random := seeded(22)
	leaves := someLeaves()
	verdicts, kinds := map[int]int{}, map[int]int{}
	for range 1500 {
		half := typed(random)
		l, at := types.Join(half, half)
		altered(random, &l[random.Intn(len(l))], len(half))
		a, b := random.Intn(len(half)), at+random.Intn(len(half))
		if random.Intn(3) > 0 {
			b = at + a
		}
		if random.Intn(2) == 0 {
			a, b = b, a
		}
		for _, b := range []int{b, noType} {
			verdict, v := told(t, l, a, b, enough)
			verdicts[verdict]++
			kinds[v.Kind]++
			if verdict != api.Yes {
				continue
			}
			for range 40 {
				if v := scattered(random, leaves, 3); has(l, a, v) && (b == noType || !has(l, b, v)) {
					t.Errorf("%s: %d in %d: Yes, but %s", show(l), a, b, brief(v))
				}
			}
		}
	}
	if verdicts[api.Yes] < 300 || verdicts[api.No] < 300 || verdicts[api.Unknown] > 0 {
		t.Error(verdicts)
	}
	for kind := api.KNull; kind <= api.KMap; kind++ {
		if kinds[kind] < 5 {
			t.Errorf("kind %d: %d", kind, kinds[kind])
		}
	}
}
