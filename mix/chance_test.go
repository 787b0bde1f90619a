package mix_test

import (
	"math/rand"
	"testing"

	"entrepot/api"
	"entrepot/mix"
	"entrepot/types"
)

// Promises 14.1 and 14.2: types and values that chance puts together.

// scattered is a value of some leaves, at most so deep below its root.
func scattered(random *rand.Rand, leaves []api.Value, depth int) api.Value {
	switch {
	case depth == 0 || random.Intn(3) == 0:
		return pick(random, leaves)
	case random.Intn(2) == 0:
		v := list()
		for range random.Intn(4) {
			v.List = append(v.List, scattered(random, leaves, depth-1))
		}
		return v
	}
	v := object("")
	for _, name := range []string{"", "a", "b", "c"} {
		if random.Intn(2) == 0 {
			v.Keys, v.List = append(v.Keys, name), append(v.List, scattered(random, leaves, depth-1))
		}
	}
	return v
}

// small is few leaves, so that types often have them.
func small() []api.Value {
	return []api.Value{null, null, no, yes, one, number("2"), number("2^53+1"), half, bits(infinity), word("a"), word("aa"), raw(""), raw("\xFF"), list(), object("")}
}

// typed is a few types that lead to one another.
func typed(random *rand.Rand) []api.Type {
	l := make([]api.Type, 1+random.Intn(4))
	for i := range l {
		t := &l[i]
		coin := func() bool { return random.Intn(3) > 0 }
		t.Null, t.False, t.True = coin(), coin(), coin()
		if coin() {
			t.Ints = spans(pick(random, []string{"..", "1", "2^53+1..", "..0 2..", "5..1", "1 3", "1..2 2^53.."}))
		}
		if coin() {
			t.Exact = spans(pick(random, []string{"..", "1", "2^53..2^53+2", "..0 2..", "2^53+1.. 2"}))
		}
		if coin() {
			t.Floats = random.Intn(32)
		}
		if coin() {
			t.Texts = []api.Texts{texts(random.Intn(2), random.Intn(4)-1, pick(random, []string{"a*", ".", "a|b", ""})), texts(2, 2)}[random.Intn(2):]
		}
		if coin() {
			t.Bytes = []api.Size{size(random.Intn(2), random.Intn(3)-1), size(1, -1)}[random.Intn(2):]
		}
		for range random.Intn(4) {
			a := arr(random.Intn(len(l)+1)-1, random.Intn(2), random.Intn(5)-1)
			for range random.Intn(3) {
				a.Prefix = append(a.Prefix, random.Intn(len(l)))
			}
			t.Arrays = append(t.Arrays, a)
		}
		for range random.Intn(4) {
			m := api.Map{Rest: random.Intn(len(l)+1) - 1}
			for _, name := range []string{"", "a", "b"} {
				if coin() {
					m.Fields = append(m.Fields, api.Field{Name: name, Type: random.Intn(len(l)), Must: random.Intn(3) == 0})
				}
			}
			t.Maps = append(t.Maps, m)
		}
	}
	return l
}

func TestHasOfAnswersThatChancePutsTogether(t *testing.T) {
	random := seeded(14)
	leaves := small()
	seen := map[string]map[int]int{}
	for _, c := range calls {
		seen[c.name] = map[int]int{}
	}
	for range 3000 {
		l := typed(random)
		i, j := random.Intn(len(l)), random.Intn(len(l))
		var values []api.Value
		for range 20 {
			values = append(values, scattered(random, leaves, 3))
		}
		for _, c := range calls {
			follows(t, c, l, i, j, values)
			for _, v := range values {
				if c.of(has(l, i, v), has(l, j, v)) {
					seen[c.name][v.Kind]++
				}
			}
		}
		c := walked(t, l, i)
		for _, v := range values {
			if has(c, 0, v) != has(l, i, v) {
				t.Errorf("Clean(%s, %d): %s", show(l), i, brief(v))
			}
		}
	}
	for name, n := range seen {
		for kind := api.KNull; kind <= api.KMap; kind++ {
			if n[kind] < 400 {
				t.Errorf("%s: kind %d: %d", name, kind, n[kind])
			}
		}
	}
}

func has(l []api.Type, i int, v api.Value) bool { return types.Has(l, i, v) }

// Lists of more types, of which Clean leaves a part.
func TestCleanThatChancePutsTogether(t *testing.T) {
	random := seeded(15)
	left := map[int]int{}
	for range 2000 {
		l := make([]api.Type, 1+random.Intn(12))
		for i := range l {
			l[i].Bytes = []api.Size{size(i, i)}
			for range random.Intn(3) {
				a := arr(random.Intn(len(l)+1)-1, 0, -1)
				for range random.Intn(2) {
					a.Prefix = append(a.Prefix, random.Intn(len(l)))
				}
				l[i].Arrays = append(l[i].Arrays, a)
			}
			for range random.Intn(2) {
				m := maps(random.Intn(len(l)+1)-1, "")
				if random.Intn(2) == 0 {
					m.Fields = []api.Field{{Name: "a", Type: random.Intn(len(l))}, {Name: "b", Type: random.Intn(len(l)), Must: true}}
				}
				l[i].Maps = append(l[i].Maps, m)
			}
		}
		got := walked(t, l, random.Intn(len(l)))
		left[len(got)]++
		if twice, _ := mix.Clean(got, 0); !same(twice, got) {
			t.Errorf("%s: not as it was", show(got))
		}
	}
	for n := 1; n <= 10; n++ {
		if left[n] < 20 {
			t.Error(left)
		}
	}
}
