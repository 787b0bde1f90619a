package text_test

import (
	"math"
	"slices"
	"strings"
	"testing"
	"time"

	"entrepot/api"
	"entrepot/text"
)

// Promise 12.2: fuel, and what is decided with 2^20 of it.

func TestNoFuel(t *testing.T) {
	for _, fuel := range []int{0, -1, -2, -1 << 20, math.MinInt32, math.MinInt + 1, math.MinInt} {
		for _, l := range [][]api.Texts{nil, sets(of()), sets(of("a*")), sets(sized(3, 2)), sets(of("[^\x00-\U0010FFFF]")), copies(8, of(unlike(8)...))} {
			tells(t, l, nil, fuel, api.Unknown)
			tells(t, nil, l, fuel, api.Unknown)
			tells(t, l, l, fuel, api.Unknown)
		}
	}
}

// From what is just enough on all fuel tells the same.
func TestJustEnoughFuel(t *testing.T) {
	for _, c := range []struct {
		all, none []api.Texts
		more      bool // than the least fuel of all is asked for
	}{
		{nil, nil, false}, {sets(of("a*")), nil, false}, {sets(of("ab")), nil, true}, {sets(sized(3, 3)), sets(of("a*"), of("b*")), true}, {sets(set(300, 300, "[ab]*a[ab]{6}")), nil, true}, {sets(set(2, 5, "[ab]*")), sets(set(0, 3, "[ab]*"), set(4, -1, "a*"), set(0, 4, ".*b.*"), set(5, 5, ".*b.*")), true},
		{sets(of("[ab]{3}")), sets(of("a..", ".a."), of("..a", ".a."), of("a..", "..a"), of("b..", ".b."), of("..b", ".b."), of("b..", "..b")), true}, {sets(set(4096, -1, "(aa)*")), sets(of(".*b", "a*"), of(".*b.*")), true}, {sets(of("[ab]*")), sets(of("[ab]*a[ab]{6}"), of("[ab]*b[ab]{6}"), sized(0, 6)), true}, {sets(sized(0, 2), sized(3, 5)), nil, false},
		{spread(append(unlike(20), "ab*", "b*a", ".{3}|a")), sets(of("b")), true},
	} {
		n := enough(c.all, c.none)
		if c.more != (n > 1) {
			t.Errorf("%s: %d", shown(c.all, c.none), n)
		}
		want, verdict := text.Find(c.all, c.none, n)
		for _, fuel := range []int{n + 1, n + 2, 2 * n, 3*n + 1, 10 * n, plenty, 1 << 22, 1 << 31, 1 << 40, math.MaxInt - 1, math.MaxInt} {
			if s := tells(t, c.all, c.none, fuel, verdict); s != want {
				t.Errorf("%s with fuel %d: %s, not %s", shown(c.all, c.none), fuel, brief(s), brief(want))
			}
		}
		for _, fuel := range []int{n - 1, n - 2, n / 2, n / 10, 1} {
			if fuel < n {
				tells(t, c.all, c.none, fuel, api.Unknown)
			}
		}
	}
}

// More work asks for more fuel: of one pattern, and of more sets of none that are in the way.
func TestFuelIsWork(t *testing.T) {
	few, many := enough(sets(set(100, 100, "[ab]*a[ab]{4}")), nil), enough(sets(set(100, 100, "[ab]*a[ab]{9}")), nil)
	if few >= many || many > plenty {
		t.Errorf("%d, then %d", few, many)
	}
	before := 0
	for n := range 9 {
		var none []api.Texts
		for c := 'a'; c < 'a'+rune(n); c++ {
			none = append(none, of(string(c), "[a-i]"))
		}
		work := enough(sets(of("[a-i]")), none)
		if work <= before {
			t.Errorf("%d sets: %d, after %d", n, work, before)
		}
		before = work
	}
}

// hard is what no fuel is enough for: too many states, too many choices, both.
func hard() [][2][]api.Texts {
	states := of("([ab]*a[ab]{20}){7}")
	var choices []api.Texts
	for c := 'a'; c < 'a'+8; c++ {
		x := of()
		for d := 'a'; d < 'a'+8; d++ {
			x.Res = append(x.Res, "("+strings.Repeat(".", int(c-'a'))+"[^"+string(d)+"].*|.*"+string(d)+".*"+string(d)+".*)")
		}
		choices = append(choices, x)
	}
	return [][2][]api.Texts{{sets(states), nil}, {sets(of("[a-g]{8}")), choices}, {sets(states), choices}}
}

// What no fuel is enough for ends, the sooner the less fuel there is.
func TestAllFuelEnds(t *testing.T) {
	for _, c := range hard() {
		for _, fuel := range []int{1, 10, 1000, 10_000} {
			begin := time.Now()
			tells(t, c[0], c[1], fuel, api.Unknown)
			if took := time.Since(begin); took > 10*time.Second {
				t.Errorf("%s with fuel %d: %v", shown(c[0], c[1]), fuel, took)
			}
		}
		if s, n := text.Find(c[0], c[1], math.MaxInt); n == wrong || n != api.Yes && s != "" || n == api.Yes && !such(c[0], c[1], s) {
			t.Errorf("%s: %s, %d", shown(c[0], c[1]), brief(s), n)
		}
	}
}

// agrees holds Find, with the fuel of 12.2, against the second way.
func agrees(t *testing.T, all, none []api.Texts) int {
	t.Helper()
	want := second(all, none)
	tells(t, all, none, plenty, want)
	if want == api.No {
		for _, s := range shortTexts {
			if such(all, none, s) {
				t.Errorf("%s: %s", shown(all, none), brief(s))
			}
		}
	}
	return want
}

func TestSmall(t *testing.T) {
	for _, c := range [][2][]api.Texts{
		{sets(of("[ab]*a[ab]{7}")), nil}, {nil, sets(of("[ab]*a[ab]{7}"))}, {sets(of("(a|b|ab|ba)*")), nil}, {sets(set(20, -1, "(aa)*"), of("(aaa)*")), nil}, {sets(set(19, 20, "(aa)*"), of("(aaa)*")), nil},
		{sets(of("a*", "b*")), sets(of("c*", "d*"))}, {sets(sized(1, -1)), sets(of("a*", "b*"), of("c*", "d*"), of("e*", "f*"))}, {sets(sized(1, 1)), sets(of(".", "a", "b"), of(".", "c", "d"), of(".", "e", "f"), of(".", ".", "."))}, {sets(sized(1, 1)), sets(of("[ab]", "a", "b"), of("[cd]", "c", "d"), of("[ef]", "e", "f"), of("[^a]", "[^b]", "."))},
		{sets(sized(1, 1)), sets(of("[a-h]", "[a-d]", "[ef]"), of("[a-g]", "[b-f]", "[c-e]"), of("[^a]", "[^b]", "[^c]"), of("[^d]", "[^e]", "[^f]"))}, {nil, sets(of("", ""), of("", ""), of("", ""), of("", ""), of("", ""), of("", ""))}, {copies(8, of("")), sets(of("", "", "", ""))}, {copies(6, sized(2, 9)), sets(set(0, 3, ".*"), set(3, 7, ".*"), set(5, 9, ".*"), set(8, 20, ".*"), sized(3, 2), sized(11, 20), sized(20, 20), sized(0, 0))},
		{sets(set(20, 20, ".*a.{7}")), nil}, {sets(set(20, 20)), sets(of("[ab]*a[ab]{5}"), of("[ab]"))}, {sets(of("[ab]*a[ab]{4}")), sets(of("[ab]", "."), set(0, 19, "."))}, {sets(set(6, 20, "[ab]*")), sets(set(0, 20, "[ab]*a[ab]{5}"), set(0, 18))}, {sets(of("(((a*)*)*)*")), sets(of("(a+)+"), sized(0, 0))},
	} {
		if n := sizes(c[0], c[1]); n > 12 {
			t.Fatalf("%s: %d", shown(c[0], c[1]), n)
		}
		for range 2 {
			if n := agrees(t, c[0], c[1]); n == api.Unknown {
				t.Errorf("%s: the second way does not know", shown(c[0], c[1]))
			}
			slices.Reverse(c[1])
		}
	}
}

// Small sets that chance puts together, held against the second way.
func TestSmallThatChancePutsTogether(t *testing.T) {
	random := seeded(3)
	seen := map[int]int{}
	for range 6000 {
		all, none := small(random)
		seen[agrees(t, all, none)]++
	}
	if seen[api.Yes] < 1000 || seen[api.No] < 1000 || seen[api.Unknown] > 0 {
		t.Errorf("%v", seen)
	}
}

// Greater ones, of more Res, which with so much fuel are decided just as well.
func TestGreaterThatChancePutsTogether(t *testing.T) {
	random := seeded(4)
	seen := map[int]int{}
	for range 1500 {
		var all, none []api.Texts
		for range random.Intn(4) {
			all = append(all, scattered(random, 12, 12, patterns))
		}
		for range 1 + random.Intn(5) {
			none = append(none, scattered(random, 12, 6, patterns))
		}
		seen[agrees(t, all, none)]++
	}
	if seen[api.Yes] < 200 || seen[api.No] < 200 {
		t.Errorf("%v", seen)
	}
}

// Sets of one code point, of which it can be told by hand which ones are left.
func TestSetsOfOneCodePoint(t *testing.T) {
	random := seeded(5)
	seen := map[int]int{}
	class := func() string {
		s := ""
		for _, c := range "abcdef" {
			if random.Intn(3) > 0 {
				s += string(c)
			}
		}
		return "[" + s + "x]"
	}
	for range 3000 {
		var lists [2][]api.Texts
		for i := range lists {
			for range random.Intn([]int{2, 9}[i]) {
				x := of()
				for range 1 + random.Intn(2) {
					x.Res = append(x.Res, class())
				}
				lists[i] = append(lists[i], x)
			}
		}
		all := append(lists[0], of("[a-f]"))
		want := api.No
		for _, s := range []string{"a", "b", "c", "d", "e", "f"} {
			if !slices.ContainsFunc(all, func(x api.Texts) bool { return !holds(x, s) }) && !slices.ContainsFunc(lists[1], func(x api.Texts) bool { return holds(x, s) }) {
				want = api.Yes
			}
		}
		tells(t, all, lists[1], plenty, want)
		seen[want]++
	}
	if seen[api.Yes] < 300 || seen[api.No] < 300 {
		t.Errorf("%v", seen)
	}
}
