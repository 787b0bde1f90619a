package incl_test

import (
	"math"
	"testing"

	"entrepot/api"
	"entrepot/value"
)

// question is one that is decided with enough fuel.
type question struct {
	name string
	l    []api.Type
	a, b int
	want int
}

func questions() []question {
	lists := letters(
		withNull(ofArrays(arr(-1, 2, 2, 3, 5))),
		withNull(ofArrays(arr(-1, 2, 2, 3, 7))), ofArrays(arr(-1, 2, 2, 3, 6)),
		withNull(ofArrays(arr(-1, 2, 2, 3, 6), arr(-1, 2, 2, 3, 7))),
	)
	bits := letters(ofMaps(maps(-1, "a2! b2! c2! d2!")), api.Type{})
	for k := range 16 {
		one := func(at int) int { return k >> at & 1 }
		bits[6].Maps = append(bits[6].Maps, api.Map{Rest: -1, Fields: []api.Field{{Name: "a", Type: one(0), Must: true}, {Name: "b", Type: one(1), Must: true}, {Name: "c", Type: one(2), Must: true}, {Name: "d", Type: one(3), Must: true}}})
	}
	less := joined(bits)
	less[6].Maps = less[6].Maps[1:]
	words := these(ofTexts(texts(0, -1, "[a-c]+")), ofTexts(texts(0, -1, "a+"), texts(0, -1, "[a-c]{1,3}"), texts(4, -1, "[ab]*")), ofTexts(texts(1, -1, "[a-d]*")))
	return []question{
		{"the same", lists, 5, 5, api.Yes},
		{"numbers", these(ofInts("1..3"), ofInts("1..5")), 0, 1, api.Yes},
		{"more numbers", these(ofInts("1..3"), ofInts("1..5")), 1, 0, api.No},
		{"nothing", these(api.Type{}), 0, noType, api.Yes},
		{"null", these(api.Type{Null: true}), 0, noType, api.No},
		{"even lists", lists, 6, 5, api.Yes},
		{"lists", lists, 5, 6, api.No},
		{"even and odd lists", lists, 5, 8, api.Yes},
		{"bits", bits, 5, 6, api.Yes},
		{"bits but one", less, 5, 6, api.No},
		{"texts", words, 0, 1, api.No},
		{"texts in more", words, 0, 2, api.Yes},
		{"chain", chain(15, api.Type{Null: true}), 0, noType, api.No},
		{"not deep by one way", append(chain(17, api.Type{Null: true}), ofArrays(arr(0, 1, 1), arr(17, 2, 2))), 18, noType, api.No},
		{"fewer nodes", these(ofArrays(arr(1, 100, 100)), ofArrays(arr(2, 500, 500), arr(3, 1, 1)), api.Type{Null: true}, ofArrays(arr(2, 1, 1))), 0, noType, api.No},
	}
}

// Promise 15.1: with little fuel Unknown is told, and from some fuel on always the same.
func TestFuel(t *testing.T) {
	for _, q := range questions() {
		least := leastFuel(q)
		if least < 1 || least > enough {
			t.Errorf("%s: %d", q.name, least)
			continue
		}
		_, v := ask(q.l, q.a, q.b, least)
		for _, fuel := range []int{math.MinInt, -1, 0, least / 2, least - 1, least, least + 1, 2*least + 1, enough, enough + 1, math.MaxInt} {
			want := q.want
			if fuel < least {
				want = api.Unknown
			}
			got, w := told(t, q.l, q.a, q.b, fuel)
			if got != want || got == api.No && !value.Same(v, w) {
				t.Errorf("%s, %d of %d: %s", q.name, fuel, least, named(got))
			}
		}
	}
}

// leastFuel is how much is just enough.
func leastFuel(q question) int {
	low, high := 0, 1<<23
	for low < high {
		fuel := (low + high) / 2
		if got, _ := ask(q.l, q.a, q.b, fuel); got == api.Unknown {
			low = fuel + 1
		} else {
			high = fuel
		}
	}
	return low
}

// More fuel makes neither Yes of No nor No of Yes.
func TestMoreFuel(t *testing.T) {
	random := seeded(20)
	changes := 0
	for range 150 {
		l := wild(random, 4, 4, 2, 3)
		a, b := random.Intn(len(l)), random.Intn(len(l)+1)-1
		last := api.Unknown
		for fuel := 1; fuel <= 4096; fuel += 1 + fuel/8 {
			got, v := ask(l, a, b, fuel)
			shown(t, l, a, b, got, v)
			if last != api.Unknown && got != last {
				t.Errorf("%s: %d in %d: %s by %d, %s ahead", show(l), a, b, named(got), fuel, named(last))
			}
			if got != last {
				changes++
			}
			last = got
		}
		if got, _ := ask(l, a, b, enough); last != api.Unknown && got != last {
			t.Errorf("%s: %d in %d: %s, then %s", show(l), a, b, named(last), named(got))
		}
	}
	if changes < 140 {
		t.Error(changes)
	}
}
