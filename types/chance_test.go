package types_test

import (
	"math"
	"math/big"
	"math/rand"
	"regexp"
	"slices"
	"testing"
	"unicode/utf8"

	"entrepot/api"
)

// Promise 13.2: types and values that chance puts together, held against a second way to tell.

// scattered is a value of some leaves, at most so deep below its root.
func scattered(random *rand.Rand, leaves []named, depth int) api.Value {
	n := random.Intn(4)
	switch {
	case depth == 0 || random.Intn(3) == 0:
		return pick(random, leaves).v
	case random.Intn(2) == 0:
		v := list()
		for range n {
			v.List = append(v.List, scattered(random, leaves, depth-1))
		}
		return v
	}
	v := object("")
	for _, name := range []string{"", "a", "b", "c"} {
		if random.Intn(2) == 0 {
			v.Keys, v.List = append(v.Keys, name), append(v.List, scattered(random, leaves, depth-1))
		}
	}
	return v
}

// small is few leaves, so that types often have them.
func small() []named {
	return []named{{"null", null}, {"null", null}, {"false", no}, {"true", yes}, {"1", one}, {"2^53+1", number("2^53+1")}, {"half", half}, {"inf", bits(infinity)}, {"a", word("a")}, {"aa", word("aa")}, {"x", raw("")}, {"xFF", raw("\xFF")}, {"[]", list()}, {"{}", object("")}}
}

// typed is a few types that lead to one another.
func typed(random *rand.Rand) []api.Type {
	l := make([]api.Type, 1+random.Intn(4))
	for i := range l {
		t := &l[i]
		coin := func() bool { return random.Intn(2) == 0 }
		t.Null, t.False, t.True = coin(), coin(), coin()
		if coin() {
			t.Ints = spans(pick(random, []string{"..", "1", "2^53+1..", "..0 2..", "5..1", "1 3"}))
		}
		if coin() {
			t.Exact = spans(pick(random, []string{"..", "1", "2^53..2^53+2", "..0 2.."}))
		}
		if coin() {
			t.Floats = random.Intn(32)
		}
		if coin() {
			t.Texts = []api.Texts{texts(random.Intn(2), random.Intn(4)-1, pick(random, []string{"a*", ".", "a|b", ""})), texts(2, 2)}[random.Intn(2):]
		}
		if coin() {
			t.Bytes = []api.Size{size(random.Intn(2), random.Intn(3)-1)}
		}
		for range random.Intn(3) {
			a := arr(random.Intn(len(l)+1)-1, random.Intn(2), random.Intn(5)-1)
			for range random.Intn(3) {
				a.Prefix = append(a.Prefix, random.Intn(len(l)))
			}
			t.Arrays = append(t.Arrays, a)
		}
		for range random.Intn(3) {
			m := api.Map{Rest: random.Intn(len(l)+1) - 1}
			for _, name := range []string{"", "a", "b"} {
				if coin() {
					m.Fields = append(m.Fields, api.Field{Name: name, Type: random.Intn(len(l)), Must: random.Intn(3) == 0})
				}
			}
			t.Maps = append(t.Maps, m)
		}
	}
	return l
}

func TestHasThatChancePutsTogether(t *testing.T) {
	random := seeded(2)
	leaves := small()
	seen := map[int]map[bool]int{}
	for range 6000 {
		l := typed(random)
		may(t, l, api.OK)
		for range 6 {
			v := scattered(random, leaves, 3)
			for i := range l {
				want := holds(l, i, v)
				has(t, l, i, v, want)
				if seen[v.Kind] == nil {
					seen[v.Kind] = map[bool]int{}
				}
				seen[v.Kind][want]++
			}
		}
	}
	for kind, n := range seen {
		if n[true] < 500 || n[false] < 500 {
			t.Errorf("kind %d: %v", kind, n)
		}
	}
	if len(seen) != 8 {
		t.Error(seen)
	}
}

// holds is what Has must tell of types and a value that may be, told in another way: each part is asked whenever a way leads to it.
func holds(l []api.Type, i int, v api.Value) bool {
	t := l[i]
	switch v.Kind {
	case api.KNull:
		return t.Null
	case api.KBool:
		return []bool{t.False, t.True}[v.Bits]
	case api.KInt:
		return inSpans(t.Ints, v.Int) || inSpans(t.Exact, v.Int) && isExact(bigOf(v.Int))
	case api.KFloat:
		return t.Floats&classOf(math.Float64frombits(v.Bits)) != 0
	case api.KText:
		return slices.ContainsFunc(t.Texts, func(x api.Texts) bool {
			return inside(x.Size, utf8.RuneCountInString(v.Text)) && !slices.ContainsFunc(x.Res, func(s string) bool {
				return !regexp.MustCompile(`\A(?:` + s + `)\z`).MatchString(v.Text)
			})
		})
	case api.KBytes:
		return slices.ContainsFunc(t.Bytes, func(s api.Size) bool { return inside(s, len(v.Text)) })
	case api.KArray:
		return slices.ContainsFunc(t.Arrays, func(a api.Arr) bool { return inside(a.Size, len(v.List)) && holdsAll(l, a, v) })
	}
	return slices.ContainsFunc(t.Maps, func(m api.Map) bool { return holdsMap(l, m, v) })
}

func holdsAll(l []api.Type, a api.Arr, v api.Value) bool {
	for k, e := range v.List {
		i := a.Rest
		if k < len(a.Prefix) {
			i = a.Prefix[k]
		}
		if i == -1 || !holds(l, i, e) {
			return false
		}
	}
	return true
}

func holdsMap(l []api.Type, m api.Map, v api.Value) bool {
	asked := map[string]int{}
	for _, f := range m.Fields {
		asked[f.Name] = f.Type
		if f.Must && !slices.Contains(v.Keys, f.Name) {
			return false
		}
	}
	for k, name := range v.Keys {
		i, ok := asked[name]
		if !ok {
			i = m.Rest
		}
		if i == -1 || !holds(l, i, v.List[k]) {
			return false
		}
	}
	return true
}

func inside(s api.Size, n int) bool { return s.Min <= n && (s.Max == -1 || n <= s.Max) }

func bigOf(a api.Int) *big.Int {
	out := new(big.Int)
	for k := range a.N {
		out.Lsh(out, 64)
		out.Or(out, new(big.Int).SetUint64(a.N[len(a.N)-1-k]))
	}
	if a.Neg {
		out.Neg(out)
	}
	return out
}

func inSpans(l []api.Span, a api.Int) bool {
	return slices.ContainsFunc(l, func(s api.Span) bool {
		return (!s.HasLo || bigOf(s.Lo).Cmp(bigOf(a)) <= 0) && (!s.HasHi || bigOf(s.Hi).Cmp(bigOf(a)) >= 0)
	})
}

func isExact(x *big.Int) bool {
	f, accuracy := new(big.Float).SetInt(x).Float64()
	return accuracy == big.Exact && !math.IsInf(f, 0)
}

// classOf is of floats that are no whole numbers below 2^256 in size.
func classOf(f float64) int {
	switch {
	case math.IsNaN(f):
		return api.FNaN
	case math.IsInf(f, 1):
		return api.FInf
	case math.IsInf(f, -1):
		return api.FNeg
	case math.Abs(f) < math.Ldexp(1, 100) && math.Ldexp(f, 64) == math.Trunc(math.Ldexp(f, 64)):
		return api.FPlain
	}
	return api.FFine
}
