package dfa_test

import (
	"slices"
	"strconv"
	"strings"
	"testing"

	"entrepot/api"
)

// A second way to decide, for patterns of few states: by what is left of a pattern behind a code point.

// rest is what is still to come, one pattern behind the other.
type rest []api.Re

func mayEnd(r api.Re) bool {
	switch r.Kind {
	case api.ReSet:
		return false
	case api.ReSeq:
		return !slices.ContainsFunc(r.L, func(part api.Re) bool { return !mayEnd(part) })
	case api.ReAlt:
		return slices.ContainsFunc(r.L, mayEnd)
	}
	return r.Min == 0 || mayEnd(r.L[0])
}

// left is what may be left of a pattern behind a code point.
func left(r api.Re, c int) []rest {
	switch r.Kind {
	case api.ReSet:
		if holds(r, c) {
			return []rest{nil}
		}
		return nil
	case api.ReSeq:
		return leftOfAll(r.L, c)
	case api.ReAlt:
		var out []rest
		for _, part := range r.L {
			out = append(out, left(part, c)...)
		}
		return out
	}
	if r.Max == 0 {
		return nil
	}
	again := rep(max(0, r.Min-1), max(-1, r.Max-1), r.L[0])
	if r.Max == -1 {
		again.Max = -1
	}
	var out []rest
	for _, x := range left(r.L[0], c) {
		out = append(out, append(slices.Clone(x), again))
	}
	return out
}

func leftOfAll(list rest, c int) []rest {
	var out []rest
	for i, head := range list {
		for _, x := range left(head, c) {
			out = append(out, append(slices.Clone(x), list[i+1:]...))
		}
		if !mayEnd(head) {
			break
		}
	}
	return out
}

// walk is what some patterns come to: states are, by pattern, the numbers of rests.
type walk struct {
	points  []int
	rests   []rest
	numbers map[string]int
	states  [][][]int
	named   map[string]int
	steps   [][]int // by state, by point
	behind  map[[2]int][]int
}

func (w *walk) number(x rest) int {
	x = slices.DeleteFunc(slices.Clone(x), func(r api.Re) bool { return r.Kind == api.ReRep && r.Max == 0 })
	name := ""
	for _, r := range x {
		name += named(r)
	}
	at, ok := w.numbers[name]
	if !ok {
		at = len(w.rests)
		w.numbers[name] = at
		w.rests = append(w.rests, x)
	}
	return at
}

// named is a pattern's text, by which it is told apart from others.
func named(r api.Re) string {
	var b strings.Builder
	b.WriteString("{" + strconv.Itoa(r.Kind))
	for _, x := range r.Set {
		b.WriteString(" " + strconv.Itoa(x.Lo) + "-" + strconv.Itoa(x.Hi))
	}
	for _, part := range r.L {
		b.WriteString(named(part))
	}
	return b.String() + " " + strconv.Itoa(r.Min) + "," + strconv.Itoa(r.Max) + "}"
}

func (w *walk) state(s [][]int) int {
	name := ""
	for i := range s {
		slices.Sort(s[i])
		s[i] = slices.Compact(s[i])
		for _, n := range s[i] {
			name += strconv.Itoa(n) + ","
		}
		name += ";"
	}
	at, ok := w.named[name]
	if !ok {
		at = len(w.states)
		w.named[name] = at
		w.states = append(w.states, s)
		w.steps = append(w.steps, nil)
	}
	return at
}

func (w *walk) on(state int) []int {
	if w.steps[state] == nil {
		var out []int
		for i := range w.points {
			next := make([][]int, len(w.states[state]))
			for k, numbers := range w.states[state] {
				for _, n := range numbers {
					next[k] = append(next[k], w.after(n, i)...)
				}
			}
			out = append(out, w.state(next))
		}
		w.steps[state] = out
	}
	return w.steps[state]
}

func (w *walk) after(n, point int) []int {
	at := [2]int{n, point}
	out, ok := w.behind[at]
	if !ok {
		for _, x := range leftOfAll(w.rests[n], w.points[point]) {
			out = append(out, w.number(x))
		}
		w.behind[at] = out
	}
	return out
}

func (w *walk) wins(state, all int) bool {
	for i, numbers := range w.states[state] {
		ended := slices.ContainsFunc(numbers, func(n int) bool {
			return !slices.ContainsFunc(w.rests[n], func(r api.Re) bool { return !mayEnd(r) })
		})
		if ended != (i < all) {
			return false
		}
	}
	return true
}

// asked is the code points at which sets may differ: where ranges begin and end, and beside them.
func asked(l []api.Re, out []int) []int {
	for _, r := range l {
		for _, x := range r.Set {
			for _, c := range []int{x.Lo - 1, x.Lo, x.Hi, x.Hi + 1} {
				if c >= 0 && c <= top && (c < 0xD800 || c > 0xDFFF) {
					out = append(out, c)
				}
			}
		}
		out = asked(r.L, out)
	}
	return out
}

// fewest is the fewest bytes of a text that is such; -1, if there is none.
func fewest(all, none []api.Re, size api.Size) int {
	l := append(slices.Clone(all), none...)
	w := &walk{points: asked(l, []int{0, 'a', 0xE000}), numbers: map[string]int{}, named: map[string]int{}, behind: map[[2]int][]int{}}
	slices.Sort(w.points)
	w.points = slices.Compact(w.points)
	first := make([][]int, len(l))
	for i, r := range l {
		first[i] = []int{w.number(rest{r})}
	}
	best := -1
	layer := map[int]int{w.state(first): 0}
	for count := 0; ; count++ {
		if count == size.Min && size.Max == -1 {
			layer = w.settled(layer)
		}
		for state, bytes := range layer {
			if count >= size.Min && w.wins(state, len(all)) && (best < 0 || bytes < best) {
				best = bytes
			}
		}
		if count == size.Max || count == size.Min && size.Max == -1 {
			return best
		}
		layer = w.onward(layer, map[int]int{})
	}
}

// onward adds to a layer where another one leads by one code point.
func (w *walk) onward(from, to map[int]int) map[int]int {
	for state, bytes := range from {
		for i, next := range w.on(state) {
			more := bytes + len(string(rune(w.points[i])))
			if old, ok := to[next]; !ok || more < old {
				to[next] = more
			}
		}
	}
	return to
}

// settled goes on by any count of code points.
func (w *walk) settled(layer map[int]int) map[int]int {
	for {
		next := map[int]int{}
		for state, bytes := range layer {
			next[state] = bytes
		}
		w.onward(layer, next)
		changed := len(next) != len(layer)
		for state, bytes := range next {
			changed = changed || bytes != layer[state]
		}
		if !changed {
			return layer
		}
		layer = next
	}
}

// agrees holds Find, with the fuel of 11.2, against the second way, and is what it tells.
func agrees(t *testing.T, all, none []api.Re, size api.Size) int {
	t.Helper()
	bytes, want := fewest(all, none, size), api.Yes
	if bytes < 0 {
		want = api.No
	} else if bytes > api.MaxText {
		want = api.Unknown
	}
	tells(t, all, none, size, plenty, want)
	return want
}
