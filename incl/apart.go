package incl

import (
	"slices"

	"entrepot/api"
)

// More pairs of Texts are not held against one another.
const manyTexts = 64

// meeting is the types in the out of a pair that are not apart from the one in in.
func (w *work) meeting(p pair) numbers {
	for i := range p.out.without(w.known[p.in]).all() {
		w.known[p.in] = w.known[p.in].with(i)
		if w.noneOfBoth(p.in, i) {
			w.parted[p.in] = w.parted[p.in].with(i)
		}
	}
	return p.out.without(w.parted[p.in])
}

// apart is whether it can be seen that no value is of both types.
func (w *work) apart(i, j int) bool {
	return w.meeting(pair{in: i, out: numbers{}.with(j)}) == numbers{}
}

func (w *work) noneOfBoth(i, j int) bool {
	x, y := &w.l[i], &w.l[j]
	if len(x.Arrays) > 0 && len(y.Arrays) > 0 || len(x.Maps) > 0 && len(y.Maps) > 0 || w.share(i, j) {
		return false
	}
	if len(x.Texts)*len(y.Texts) > manyTexts {
		return false
	}
	for _, s := range x.Texts {
		for _, t := range y.Texts {
			if !w.noTextOfBoth(s, t) {
				return false
			}
		}
	}
	return true
}

// share is whether some leaf is of both types.
func (w *work) share(i, j int) bool {
	w.fuel.pay(w.leaves / specimensAtOnce)
	return slices.ContainsFunc(w.specimens[:w.leaves], func(x specimen) bool { return x.of.has(i) && x.of.has(j) })
}

// noTextOfBoth asks with little fuel: it is well if it can be seen, and no harm if not.
func (w *work) noTextOfBoth(s, t api.Texts) bool {
	low, high := bounds(s.Size)
	from, to := bounds(t.Size)
	if max(low, from) > min(high, to) {
		return true
	}
	if len(s.Res) == 0 || len(t.Res) == 0 {
		return false
	}
	_, n := w.findText([]api.Texts{s, t}, nil, firstAsk)
	return n == api.No
}
