package incl

import (
	"slices"
	"strings"

	"entrepot/api"
	"entrepot/float"
	"entrepot/span"
	"entrepot/whole"
)

// What is laid out in one step.
const (
	spansAtOnce = 8
	marksAtOnce = 256
)

// leavesOf is values without parts, but texts: one for all that are of the same types, the least ones first.
func leavesOf(l []api.Type, there numbers, fuel *meter) []specimen {
	var out []specimen
	add := func(v api.Value, has func(t *api.Type) bool) {
		var of numbers
		for i := range there.all() {
			if has(&l[i]) {
				of = of.with(i)
			}
		}
		if of != (numbers{}) {
			out = append(out, leaf(v, of))
		}
	}
	add(api.Value{Kind: api.KNull}, func(t *api.Type) bool { return t.Null })
	add(api.Value{Kind: api.KBool}, func(t *api.Type) bool { return t.False })
	add(api.Value{Kind: api.KBool, Bits: 1}, func(t *api.Type) bool { return t.True })
	out = append(out, wholeLeaves(l, there, fuel)...)
	for _, bits := range floats() {
		class := float.Class(bits)
		add(api.Value{Kind: api.KFloat, Bits: bits}, func(t *api.Type) bool { return t.Floats&class != 0 })
	}
	zeros := strings.Repeat("\x00", api.MaxText+1)
	for _, n := range lengths(l, there) {
		fuel.pay(1)
		add(api.Value{Kind: api.KBytes, Text: zeros[:n]}, func(t *api.Type) bool {
			return slices.ContainsFunc(t.Bytes, func(s api.Size) bool { return lets(s, n) })
		})
	}
	return out
}

// floats is one of each class: 1/2, 2^-65, and what is not finite.
func floats() []uint64 {
	return []uint64{0x3FE0000000000000, 0x3BE0000000000000, 0x7FF0000000000000, 0xFFF0000000000000, float.NaN}
}

func lets(s api.Size, n int) bool {
	from, to := bounds(s)
	return from <= n && n <= to
}

// lengths is those at which what Bytes let be begins to be otherwise; the greatest is that of a
// value that may not be.
func lengths(l []api.Type, there numbers) []int {
	var out []int
	for i := range there.all() {
		for _, s := range l[i].Bytes {
			out = append(out, s.Min)
			if s.Max != endless {
				out = append(out, s.Max+1)
			}
		}
	}
	slices.Sort(out)
	return slices.Compact(out)
}

// wholeLeaves is whole numbers. In a stretch in which no type's Ints or Exact begin or end all exact ones are of
// the same types, and all others.
func wholeLeaves(l []api.Type, there numbers, fuel *meter) []specimen {
	cuts := cutsOf(l, there, fuel)
	ints, exact := make([]numbers, len(cuts)+1), make([]numbers, len(cuts)+1)
	for i := range there.all() {
		mark(ints, cuts, l[i].Ints, i, fuel)
		mark(exact, cuts, l[i].Exact, i, fuel)
	}
	least := map[numbers]api.Int{}
	add := func(k int, isExact bool, of numbers) {
		if of == (numbers{}) {
			return
		}
		a, ok := span.Pick([]api.Span{stretch(cuts, k)}, isExact, !isExact)
		if b, known := least[of]; ok && (!known || bySize(a, b) < 0) {
			least[of] = a
		}
	}
	for k := range ints {
		add(k, true, ints[k].either(exact[k]))
		add(k, false, ints[k])
	}
	var out []specimen
	for of, a := range least {
		out = append(out, leaf(api.Value{Kind: api.KInt, Int: a}, of))
	}
	slices.SortFunc(out, func(x, y specimen) int { return bySize(x.leaf.Int, y.leaf.Int) })
	return out
}

// bySize is the order of numbers by their size; of like ones the one that is not Neg is first.
func bySize(a, b api.Int) int {
	if c := whole.Cmp(api.Int{N: a.N}, api.Int{N: b.N}); c != 0 {
		return c
	}
	return -whole.Cmp(a, b)
}

// cutsOf is the numbers, rising, at which a type's Ints or Exact begin, or behind which they end.
func cutsOf(l []api.Type, there numbers, fuel *meter) []api.Int {
	var out []api.Int
	for i := range there.all() {
		for _, list := range [][]api.Span{l[i].Ints, l[i].Exact} {
			fuel.pay(len(list) / spansAtOnce)
			for _, s := range span.Norm(list) {
				if s.HasLo {
					out = append(out, s.Lo)
				}
				if next, ok := whole.Next(s.Hi); ok && s.HasHi {
					out = append(out, next)
				}
			}
		}
	}
	slices.SortFunc(out, whole.Cmp)
	return slices.Compact(out)
}

// mark puts a type to the stretches in which the numbers of its spans are.
func mark(of []numbers, cuts []api.Int, spans []api.Span, i int, fuel *meter) {
	for _, s := range span.Norm(spans) {
		from, to := 0, len(cuts)
		if s.HasLo {
			at, _ := slices.BinarySearchFunc(cuts, s.Lo, whole.Cmp)
			from = at + 1
		}
		if next, ok := whole.Next(s.Hi); ok && s.HasHi {
			to, _ = slices.BinarySearchFunc(cuts, next, whole.Cmp)
		}
		fuel.pay((to - from) / marksAtOnce)
		for k := from; k <= to; k++ {
			of[k] = of[k].with(i)
		}
	}
}

// stretch is the numbers from the cut ahead of place k to the one at it.
func stretch(cuts []api.Int, k int) api.Span {
	var out api.Span
	if k > 0 {
		out.HasLo, out.Lo = true, cuts[k-1]
	}
	if k == len(cuts) {
		return out
	}
	last, ok := whole.Prev(cuts[k])
	if !ok { // there is nothing below the least number of all
		return api.Span{HasLo: true, Lo: whole.Of(1), HasHi: true}
	}
	out.HasHi, out.Hi = true, last
	return out
}
