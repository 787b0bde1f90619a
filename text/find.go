package text

import (
	"slices"

	"entrepot/api"
	"entrepot/dfa"
	"entrepot/rex"
)

const (
	maxSets     = 8
	maxPatterns = 20 // that dfa can be asked of at once
	wrong       = -api.ErrArg
)

// Find is promise 12.2's.
func Find(all, none []api.Texts, fuel int) (string, int) {
	in, okIn := setsOf(all)
	out, okOut := setsOf(none)
	if !okIn || !okOut {
		return "", wrong
	}
	return newQuery(in, out, fuel).find()
}

func setsOf(l []api.Texts) ([]set, bool) {
	if len(l) > maxSets {
		return nil, false
	}
	var out []set
	for _, t := range l {
		x, ok := setOf(t)
		if !ok {
			return nil, false
		}
		out = append(out, x)
	}
	return out, true
}

// query is one set for all, by its parts, and the sets of none.
type query struct {
	all    []pattern
	counts counts
	none   []set
	fuel   meter
}

// newQuery takes out of the sets of none what can't be why a text is not in them: it stands among all.
func newQuery(all, none []set, fuel int) *query {
	q := &query{counts: counts{to: unbounded}, fuel: newMeter(fuel)}
	for _, x := range all {
		q.all = withNew(q.all, x.res)
		q.counts = q.counts.both(x.counts)
	}
	for _, x := range none {
		x.res = slices.DeleteFunc(x.res, func(p pattern) bool { return p.isAmong(q.all) })
		q.none = append(q.none, x)
	}
	return q
}

// branch is texts that all match, of some counts of code points, that none of left matches.
type branch struct {
	counts counts
	left   []pattern
}

// without is branches that have together what b has and x has not.
func (b branch) without(x set) []branch {
	out := []branch{{counts: b.counts.below(x.counts), left: b.left}, {counts: b.counts.above(x.counts), left: b.left}}
	for _, p := range x.res {
		out = append(out, branch{counts: b.counts.both(x.counts), left: append(slices.Clone(b.left), p)})
	}
	return out
}

// meets is whether a set may have texts of b, as far as that can be seen.
func (b branch) meets(x set) bool {
	return !b.counts.both(x.counts).empty() && !slices.ContainsFunc(x.res, func(p pattern) bool { return p.isAmong(b.left) })
}

// find goes on to branches where a set of none is in the way, and back where a branch comes to nothing.
func (q *query) find() (string, int) {
	var choose func(b branch) (string, int)
	choose = func(b branch) (string, int) {
		if q.fuel.out() {
			return "", api.Unknown
		}
		if b.counts.empty() {
			return "", api.No
		}
		s, verdict := q.ask(b)
		if verdict == api.No {
			return "", api.No
		}
		x, ok := q.inTheWay(b, s, verdict)
		if !ok {
			return s, verdict
		}
		verdict = api.No
		for _, next := range b.without(x) {
			s, n := choose(next)
			if n == api.Yes {
				return s, api.Yes
			}
			if n == api.Unknown {
				verdict = api.Unknown
			}
		}
		return "", verdict
	}
	return choose(branch{counts: q.counts})
}

// inTheWay is the first set of none that has the text of a Yes, or that may have texts of an Unknown branch.
func (q *query) inTheWay(b branch, s string, verdict int) (set, bool) {
	for _, x := range q.none {
		if b.meets(x) && (verdict == api.Unknown || x.has(s, q.match)) {
			return x, true
		}
	}
	return set{}, false
}

func (q *query) match(r api.Re, s string) bool {
	q.fuel.spend(1 + (len(s)+1)*rex.Size(r)/matchedAtOnce)
	return rex.Match(r, s)
}

// ask is what there is in a branch, whatever the sets of none have. Where all are more than dfa has
// room for, it is asked of some of them, and, while the text that it finds is not such for another
// one, again with that one ahead.
func (q *query) ask(b branch) (string, int) {
	room := min(len(q.all), maxPatterns-len(b.left))
	for range len(q.all) + 1 {
		s, n := q.askOf(q.all[:room], b)
		if n != api.Yes {
			return "", n
		}
		missed := slices.IndexFunc(q.all[room:], func(p pattern) bool { return !q.match(p.re, s) })
		if missed < 0 {
			return s, api.Yes
		}
		p := q.all[room+missed]
		q.all = slices.Insert(slices.Delete(q.all, room+missed, room+missed+1), 0, p)
	}
	return "", api.Unknown
}

// askOf asks dfa with more and more fuel, since dfa does not tell how much of it was of use. Where
// sets of none are still to be asked, an Unknown costs less than all: their branches may be known.
func (q *query) askOf(all []pattern, b branch) (string, int) {
	most := lastFuel
	if slices.ContainsFunc(q.none, b.meets) {
		most = midFuel
	}
	size := b.counts.size()
	size.Min = min(size.Min, maxCount)
	for fuel := firstFuel; ; fuel *= fuelGrowth {
		s, n := dfa.Find(read(all), read(b.left), size, q.fuel.take(fuel))
		if n == api.Yes && size.Min < b.counts.from { // more code points than bytes that may be told
			return "", api.Unknown
		}
		if n != api.Unknown || fuel >= most || q.fuel.out() {
			return s, n
		}
	}
}

func read(l []pattern) []api.Re {
	var out []api.Re
	for _, p := range l {
		out = append(out, p.re)
	}
	return out
}
