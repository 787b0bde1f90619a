package incl_test

import (
	"math"
	"math/rand"
	"strconv"
	"testing"
	"time"

	"entrepot/api"
	"entrepot/types"
)

// fragment is 6 records of up to 20 members, by number also in rounds: 0 to 5.
func fragment(random *rand.Rand) []api.Type {
	l := make([]api.Type, 6)
	add := func(t api.Type) int {
		l = append(l, t)
		return len(l) - 1
	}
	var plain []int
	for _, t := range these(api.Type{False: true, True: true}, ofInts("-2^31..2^31-1"), ofInts("-2^63..2^63-1"), ofInts("0..2^32-1"), ofInts("0..2^64-1"), ofTexts(texts(0, -1))) {
		plain = append(plain, add(t))
	}
	for k := range 20 {
		of := pick(random, plain)
		if random.Intn(2) == 0 {
			of = random.Intn(6)
		}
		switch random.Intn(3) {
		case 0:
			of = add(ofArrays(arr(of, 0, -1)))
		case 1:
			of = add(ofMaps(maps(of, "")))
		}
		if len(l[k%6].Maps) == 0 {
			l[k%6].Maps = []api.Map{maps(-1, "")}
		}
		l[k%6].Maps[0].Fields = append(l[k%6].Maps[0].Fields, api.Field{Name: string(rune('a' + k)), Type: of})
	}
	return l
}

// T2: records as they are translated are decided: the same ones, said twice, and such as have a member more.
func TestRecords(t *testing.T) {
	random := seeded(23)
	for range 100 {
		half := fragment(random)
		l, at := types.Join(half, half)
		asks(t, l, 0, at, api.Yes)
		asks(t, l, at, 0, api.Yes)
		l[at].Maps[0].Fields = append(l[at].Maps[0].Fields, api.Field{Name: "z", Type: 1})
		asks(t, l, 0, at, api.Yes)
		asks(t, l, at, 0, api.No)
	}
}

// T2: whole numbers in at most 8 numbers and ranges, said in two ways.
func TestRanges(t *testing.T) {
	l := these(ofInts("..-2^64 -5 -3..1 0..7 9 11..2^53+1 2^60 2^64..max"), ofInts("..-2^64 -5 -3..7 9 11..2^53+1 2^60 2^64.."), ofInts("..-2^64 -5 -3..7 9 11..2^53+1 2^64.."))
	asks(t, l, 0, 1, api.Yes)
	asks(t, l, 1, 0, api.Yes)
	asks(t, l, 2, 1, api.Yes)
	if v := asks(t, l, 1, 2, api.No); v.Int != num("2^60") {
		t.Error(brief(v))
	}
}

// A union of 20 records that a text tells apart.
func TestManyRecords(t *testing.T) {
	half := these(everything(0), api.Type{}, ofInts(".."))
	for k := range 20 {
		half = append(half, ofTexts(texts(0, -1, "kind "+strconv.Itoa(k))))
		m := maps(-1, "a0 b2 c1")
		m.Fields = append(m.Fields, api.Field{Name: "kind", Type: 3 + k, Must: true})
		half[1].Maps = append(half[1].Maps, m)
	}
	l, at := types.Join(half, half)
	asks(t, l, 1, at+1, api.Yes)
	l[at+1].Maps = l[at+1].Maps[:19]
	asks(t, l, at+1, 1, api.Yes)
	if v := asks(t, l, 1, at+1, api.No); len(v.List) == 0 || v.List[len(v.List)-1].Text != "kind 19" {
		t.Error(brief(v))
	}
	for i := range l[at+1].Maps {
		l[at+1].Maps[i].Fields[0].Type = 2
	}
	asks(t, l, at+1, 1, api.Yes)
	asks(t, l, 1, at+1, api.No)
}

// Rule 1: what is too much to be decided ends, however much fuel there is.
func TestTooMuch(t *testing.T) {
	random := seeded(24)
	l := make([]api.Type, api.MaxTypes)
	number := func() int { return random.Intn(len(l)) }
	for i := range l {
		l[i].Null = random.Intn(20) == 0
		for range 20 {
			l[i].Arrays = append(l[i].Arrays, someArray(random, number, 8, 5))
			m := api.Map{Rest: number()}
			for k := range 50 {
				if random.Intn(3) > 0 {
					m.Fields = append(m.Fields, api.Field{Name: string(rune('0' + k)), Type: number(), Must: random.Intn(3) == 0})
				}
			}
			l[i].Maps = append(l[i].Maps, m)
		}
	}
	texts := these(ofTexts(texts(2000, 4096, "(a|b)*", ".*a.{18}", ".*b.{17}")), ofTexts(texts(0, 4095, "(a|b)*a(a|b){17}")))
	start := time.Now()
	for _, fuel := range []int{1 << 12, math.MaxInt} {
		for a := range 3 {
			got, v := ask(l, a, a+1, fuel)
			shown(t, l, a, a+1, got, v)
		}
		got, v := ask(texts, 0, 1, fuel)
		shown(t, texts, 0, 1, got, v)
	}
	if d := time.Since(start); d > time.Minute {
		t.Error(d)
	}
}
