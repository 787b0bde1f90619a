package text_test

import (
	"math/rand"
	"strconv"

	"entrepot/api"
	"entrepot/rex"
)

func seeded(n int64) *rand.Rand { return rand.New(rand.NewSource(n)) }

// shortTexts is all texts of up to 4 of some code points.
var shortTexts = textsUpTo(4, []string{"a", "b", "é"})

func textsUpTo(n int, points []string) []string {
	out, layer := []string{""}, []string{""}
	for range n {
		var next []string
		for _, s := range layer {
			for _, c := range points {
				next = append(next, s+c)
			}
		}
		out, layer = append(out, next...), next
	}
	return out
}

// pick is one of a list.
func pick[T any](random *rand.Rand, l []T) T { return l[random.Intn(len(l))] }

// patterns is a pattern of at most a Size.
func patterns(random *rand.Rand, size int) string {
	switch n := random.Intn(7); {
	case size == 1 || n == 0:
		return pick(random, []string{"a", "b", "é", "[ab]", "[^a]", "[aé]", ".", ".", "", "a", "b"})
	case n == 1 && size > 4:
		times := 2 + random.Intn((size-1)/2-1)
		inner := patterns(random, (size-1)/times)
		return "(" + inner + "){" + strconv.Itoa(random.Intn(times+1)) + pick(random, []string{"", ",", "," + strconv.Itoa(times)}) + "}"
	case n <= 3 || size == 2:
		return "(" + patterns(random, size-1) + ")" + pick(random, []string{"*", "*", "?", "+"})
	case n == 4:
		left := 1 + random.Intn(size-2)
		return "(" + patterns(random, left) + "|" + patterns(random, size-1-left) + ")"
	}
	left := 1 + random.Intn(size-2)
	return patterns(random, left) + patterns(random, size-1-left)
}

// counts is a Size of up to most code points.
func counts(random *rand.Rand, most int) api.Size {
	least := random.Intn(most + 1)
	switch random.Intn(8) {
	case 0:
		return api.Size{Min: least, Max: -1}
	case 1:
		return api.Size{Min: least, Max: least}
	case 2:
		return api.Size{Max: least}
	case 3:
		return api.Size{Min: least, Max: random.Intn(most + 1)} // Max may be below Min
	case 4:
		return api.Size{Min: min(least, 3), Max: min(most, least+3)}
	}
	return api.Size{Max: -1}
}

// scattered is a set of a few patterns, each of at most a Size.
func scattered(random *rand.Rand, most, size int, patterns func(*rand.Rand, int) string) api.Texts {
	x := api.Texts{Size: counts(random, most)}
	for range random.Intn(4) {
		x.Res = append(x.Res, patterns(random, 1+random.Intn(size)))
	}
	return x
}

// small is sets of all and of none whose Sizes are together at most 12.
func small(random *rand.Rand) ([]api.Texts, []api.Texts) {
	lists := [2][]api.Texts{make([]api.Texts, random.Intn(4)), make([]api.Texts, 1+random.Intn(8))}
	for _, l := range lists {
		for i := range l {
			l[i].Size = counts(random, 20)
		}
	}
	left := 12
	for range 40 {
		l := pick(random, lists[:])
		if left == 0 || len(l) == 0 {
			continue
		}
		x := &l[random.Intn(len(l))]
		s := patterns(random, 1+random.Intn(left))
		if r, err := rex.Parse(s); err == api.OK && rex.Size(r) <= left && len(x.Res) < 8 {
			left -= rex.Size(r)
			x.Res = append(x.Res, s)
		}
	}
	return lists[0], lists[1]
}
