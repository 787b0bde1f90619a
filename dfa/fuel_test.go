package dfa_test

import (
	"math"
	"math/rand"
	"strings"
	"testing"
	"time"

	"entrepot/api"
	"entrepot/dfa"
	"entrepot/rex"
)

// Promise 11.1: fuel; and 11.2: what is decided with 2^20 of it.

func TestNoFuel(t *testing.T) {
	for _, fuel := range []int{0, -1, -2, -1 << 20, math.MinInt + 1, math.MinInt} {
		for _, size := range []api.Size{free, just(0), just(1), just(4096)} {
			tells(t, nil, nil, size, fuel, api.Unknown)
			tells(t, parsed(t, "a*"), nil, size, fuel, api.Unknown)
			tells(t, parsed(t, "[^\x00-\U0010FFFF]"), nil, size, fuel, api.Unknown)
			tells(t, nil, parsed(t, ".*"), size, fuel, api.Unknown)
			tells(t, parsed(t, "a"), parsed(t, "a"), size, fuel, api.Unknown)
		}
	}
}

// From what is just enough on all fuel tells the same.
func TestJustEnoughFuel(t *testing.T) {
	for _, c := range []struct {
		all, none string
		size      api.Size
	}{
		{"", "", free}, {"a", "", free}, {"[a-c]+", "a+", just(2)}, {"a+", "[a-c]+", free}, {"[ab]*a[ab]{6}", "", just(300)}, {"(aa)* (aaa)*", "", sized(1, -1)}, {"a*", "", just(4096)}, {".*[ab]{3} [a-d]*", ".*aa.* .*bb.*", sized(30, 60)}, {"[ab]*", "[ab]*a[ab]{6} [ab]*b[ab]{6} [ab]{0,6}", free}, {"a.* b.*", "", free},
	} {
		all, none := split(t, c.all), split(t, c.none)
		n := enough(all, none, c.size)
		want, verdict := dfa.Find(all, none, c.size, n)
		for _, fuel := range []int{n + 1, n + 2, 2 * n, 3*n + 1, 10 * n, plenty, 1 << 22, 1 << 31, 1 << 40, math.MaxInt - 1, math.MaxInt} {
			if s := tells(t, all, none, c.size, fuel, verdict); s != want {
				t.Errorf("%s with fuel %d: %s, not %s", show(all, none, c.size), fuel, brief(s), brief(want))
			}
		}
		for _, fuel := range []int{n - 1, n - 2, n / 2, n / 10, 1} {
			if fuel < n {
				tells(t, all, none, c.size, fuel, api.Unknown)
			}
		}
	}
}

// More work asks for more fuel, and little fuel ends soon, however great what is asked is.
func TestFuelIsWork(t *testing.T) {
	few, many := enough(parsed(t, "[ab]*a[ab]{4}"), nil, just(100)), enough(parsed(t, "[ab]*a[ab]{9}"), nil, just(100))
	if few >= many || many > plenty {
		t.Errorf("%d, then %d", few, many)
	}
	short, long := enough(parsed(t, "a*"), nil, just(400)), enough(parsed(t, "a*"), nil, just(4000))
	if short >= long || long > plenty {
		t.Errorf("%d, then %d", short, long)
	}
	for _, c := range [][2]string{{"[ab]*a[ab]{15}[^\x00-\U0010FFFF]", ""}, {"[^\x00-\U0010FFFF][ab]*a[ab]{15}", ""}, {"c", "c|[ab]*a[ab]{15}"}, {"a|b", "[ab] [ab]*a[ab]{15}"}} {
		if n := enough(split(t, c[0]), split(t, c[1]), free); n > 1000 {
			t.Errorf("%v: %d, where nothing can come of most", c, n)
		}
	}
	great := []api.Re{parsed(t, "([ab]*a[ab]{20}){7}")[0], parsed(t, "([ab]*b[ab]{19}){8}")[0]}
	begin := time.Now()
	for _, fuel := range []int{1, 10, 1000, 10_000} {
		tells(t, great, nil, free, fuel, api.Unknown)
		tells(t, nil, great, just(4096), fuel, api.Unknown)
	}
	if took := time.Since(begin); took > 30*time.Second {
		t.Errorf("%v", took)
	}
}

// What no fuel would be enough for ends, and does not take all the memory there is.
func TestGreatestFuelEnds(t *testing.T) {
	all, none := parsed(t, "([ab]*a[ab]{20}){7}"), parsed(t, "([ab]*a[ab]{20}){6}.*")
	if s, n := dfa.Find(all, none, free, math.MaxInt); n == api.Yes || s != "" {
		t.Errorf("%s, %d", brief(s), n)
	}
}

// Patterns of which a text can be at many places at once.
func TestSmallAtManyPlaces(t *testing.T) {
	sizes := []api.Size{free, just(20), sized(0, 20), sized(20, -1), just(0), sized(9, 10), sized(1, 1)}
	for _, c := range [][2]string{
		{"[ab]*a[ab]{7}", ""}, {"", "[ab]*a[ab]{7}"}, {"[ab]*a[ab]{5}", "[ab]"}, {"[ab]*a[ab]{2}", "[ab]*b."}, {"(a|b|ab|ba)*", ""}, {"", "(a|b|ab|ba)*"}, {"(.*.*.*.*)*", ""}, {"", "((.*)*.*)*"}, {"((a?b?)*)*", "b"}, {".*a.{7}", ""}, {"", ".*a.{7}"}, {"(a?){2}a{2}", ""}, {"", "(a?){2}a{2}"}, {"(.|..|...)*", ""}, {"", "(.|..|...)*"}, {".*a.*b.*", ""}, {"[ab]*a[ab][ab]", "[ab]*"}, {"(aa)* (aaa)*", ""}, {"", "(aa)* (aaa)*"}, {"(aa)* (aaaaa)*", ""}, {"(aaa)*", "(a{4})*"}, {"a* b* c* d*", "a* b*"}, {"", "a* b* c* d* e* .*"}, {". . . . . .", ". . . . . ."}, {"", "() () () () () () () () () () () ()"}, {"(((a*)*)*)*", "(a+)+"}, {".?.?.?.?.?", ""}, {"", ".?.?.?.?.?"},
	} {
		all, none := split(t, c[0]), split(t, c[1])
		sum := 0
		for _, r := range append(all, none...) {
			sum += rex.Size(r)
		}
		if sum > 12 {
			t.Fatalf("%v: %d", c, sum)
		}
		for _, size := range sizes {
			agrees(t, all, none, size)
		}
	}
}

// bits is the code points of which one bit of their numbers is 1, among those below 2^most.
func bits(bit, most int) api.Re {
	r := set()
	for c := range min(1<<most, top+1) {
		if c>>bit&1 == 0 || c >= 0xD800 && c <= 0xDFFF {
			continue
		}
		if n := len(r.Set); n > 0 && r.Set[n-1].Hi == c-1 {
			r.Set[n-1].Hi = c
		} else {
			r.Set = append(r.Set, api.Range{Lo: c, Hi: c})
		}
	}
	return r
}

// As many sets as there is room for, between which there is every difference: of few ranges, and of very many.
func TestSmallOfUnlikeSets(t *testing.T) {
	for _, most := range []int{10, 21} {
		var sets []api.Re
		for bit := range 10 {
			sets = append(sets, bits(bit, most))
		}
		looped := append([]api.Re{star(sets[0])}, sets[1:]...)
		for _, r := range []api.Re{seq(looped...), star(alt(sets...)), alt(sets...), seq(append(sets, dot())...), seq(append([]api.Re{star(dot())}, sets[1:]...)...)} {
			if rex.Size(r) != 12 && r.Kind != api.ReAlt {
				t.Fatalf("Size %d", rex.Size(r))
			}
			for _, size := range []api.Size{free, just(20), sized(15, -1)} {
				if _, n := dfa.Find([]api.Re{r}, nil, size, plenty); n == api.Unknown {
					t.Errorf("all %s", show([]api.Re{r}, nil, size))
				}
				if _, n := dfa.Find(nil, []api.Re{r}, size, plenty); n == api.Unknown {
					t.Errorf("none %s", show(nil, []api.Re{r}, size))
				}
			}
		}
	}
}

// scattered is a pattern of just a Size, of the sets of a list.
func scattered(random *rand.Rand, size int, sets []api.Re) api.Re {
	if size == 1 {
		if random.Intn(12) == 0 {
			return seq()
		}
		return sets[random.Intn(len(sets))]
	}
	if size == 2 || random.Intn(4) == 0 {
		return repeated(random, size, sets)
	}
	var parts []api.Re
	for left := size - 1; left > 0; {
		n := 1 + random.Intn(min(left, 5))
		if n == size-1 {
			n--
		}
		parts = append(parts, scattered(random, n, sets))
		left -= n
	}
	if random.Intn(3) == 0 {
		return alt(parts...)
	}
	return seq(parts...)
}

func repeated(random *rand.Rand, size int, sets []api.Re) api.Re {
	times := 1
	for n := 2; n < size && n <= 20; n++ {
		if (size-1)%n == 0 && random.Intn(2) == 0 {
			times = n
		}
	}
	r := scattered(random, (size-1)/times, sets)
	if random.Intn(2) == 0 {
		return rep(times-1, -1, r)
	}
	return rep(random.Intn(times+1), times, r)
}

// Small patterns that chance puts together, held against a second way to decide.
func TestSmallThatChancePutsTogether(t *testing.T) {
	random := rand.New(rand.NewSource(11))
	few := []api.Re{one('a'), one('b'), set('a', 'b')}
	many := []api.Re{one('a'), set('a', 'c'), set('b', 'd'), set('0', '9', 'a', 'f'), dot(), set(0, '`', 'b', 0xD7FF, 0xE000, top), one(0xE9), set(0x7F, 0x80), set(0x7FF, 0x800), set(0xD7FF, 0xD7FF, 0xE000, 0xE000), set(0xFFFF, 0x10000), one(top), set(0x800, 0xD7FF, 0xE000, top), set(), set(0, 0)}
	counts := map[int]int{}
	for i := range 20_000 {
		sets := few
		if i%2 == 0 {
			sets = many
		}
		lists := [2][]api.Re{}
		for left := 12; left > 0; {
			size := 1 + random.Intn(left)
			which := random.Intn(2)
			lists[which] = append(lists[which], scattered(random, size, sets))
			left -= size
		}
		size := []api.Size{free, sized(random.Intn(21), -1), just(random.Intn(21)), sized(random.Intn(10), 10+random.Intn(11))}[random.Intn(4)]
		counts[agrees(t, lists[0], lists[1], size)]++
	}
	if counts[api.Yes] < 5000 || counts[api.No] < 5000 {
		t.Errorf("%v", counts)
	}
}

// Greater ones, which with so much fuel are decided just as well.
func TestGreaterThatChancePutsTogether(t *testing.T) {
	random := rand.New(rand.NewSource(12))
	sets := []api.Re{one('a'), one('b'), set('a', 'b'), one(0xE9), dot(), one(0x1D11E)}
	for range 2000 {
		lists := [2][]api.Re{}
		for range 1 + random.Intn(4) {
			which := random.Intn(2)
			lists[which] = append(lists[which], scattered(random, 1+random.Intn(20), sets))
		}
		agrees(t, lists[0], lists[1], []api.Size{free, sized(random.Intn(40), -1), just(random.Intn(40)), sized(random.Intn(20), 20+random.Intn(40))}[random.Intn(4)])
	}
}

// Texts of up to 4,096 code points, which may be of more bytes than may be told.
func TestLongThatChancePutsTogether(t *testing.T) {
	random := rand.New(rand.NewSource(13))
	sets := []api.Re{one('a'), one(0xE9), one(0x20AC), one(0x1D11E), set('a', 'a', 0xE9, 0xE9), set(0xE9, 0xE9, 0x1D11E, 0x1D11E)}
	counts := map[int]int{}
	for range 400 {
		all := []api.Re{star(scattered(random, 1+random.Intn(6), sets))}
		if random.Intn(3) == 0 {
			all = append(all, star(scattered(random, 1+random.Intn(3), sets)))
		}
		none := []api.Re{seq(star(dot()), scattered(random, 1+random.Intn(2), sets))}
		n := []int{1000, 1024, 1025, 1365, 1366, 2000, 2048, 2049, 4000}[random.Intn(9)]
		counts[agrees(t, all, none, []api.Size{sized(n, -1), just(n), sized(n, n+20)}[random.Intn(3)])]++
	}
	if counts[api.Yes] < 20 || counts[api.No] < 20 || counts[api.Unknown] < 20 {
		t.Errorf("%v", counts)
	}
}

func TestRepeatsThatChancePutsTogether(t *testing.T) {
	for _, c := range [][2]string{{"(a{2}|b{3}){2,4}", "a*|b*"}, {"(a{0,2}b){3}", ".*ab.*"}, {"((a|b){2,3}c?){2,}", ".*c.*"}, {"(a{2,}){2,}", "(a{3,}){0,2}"}, {"(a{0,3}){0,3}", "a{0,8}"}, {"(a{0,3}){0,3}", "a{0,9}"}, {"((a{2}){2}){2}", "a{8}"}, {"((a{2,}){2,}){2}", "a{8}"}, {"(a?b{2,3}){2}", "(ab|b){1,4}b*"}} {
		for _, size := range []api.Size{free, just(4), just(8), sized(5, 9), sized(10, -1)} {
			agrees(t, split(t, c[0]), split(t, c[1]), size)
			agrees(t, split(t, c[1]), split(t, c[0]), size)
			agrees(t, split(t, strings.Join(c[:], " ")), nil, size)
		}
	}
}
