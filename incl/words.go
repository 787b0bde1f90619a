package incl

import (
	"cmp"
	"slices"
	"strings"

	"entrepot/api"
	"entrepot/text"
)

const (
	maxSets       = 8 // of either list that text.Find takes
	firstAsk      = 1 << 4
	askGrowth     = 1 << 3
	maxBreadth    = 200
	matchedAtOnce = 16 // bytes, by patterns of one place, for one unit of fuel
	readAtOnce    = 8  // bytes of patterns, in one step
)

// word is whether there is a text, and which specimen it is.
type word struct{ verdict, specimen int }

// wordOf is of the texts of a pair. To these, types without texts make no difference.
func (w *work) wordOf(p pair) word {
	if !w.worded.has(p.in) {
		return word{verdict: api.No, specimen: none}
	}
	p.out = p.out.both(w.worded)
	got, ok := w.words[p]
	if !ok {
		got = w.newWord(p)
		w.words[p] = got
	}
	return got
}

func (w *work) newWord(p pair) word {
	var bars []api.Texts
	for i := range p.out.all() {
		bars = append(bars, w.l[i].Texts...)
	}
	out := word{verdict: api.No, specimen: none}
	for _, t := range w.l[p.in].Texts {
		s, n := w.textOutOf(t, bars)
		if n == api.Yes {
			return word{verdict: api.Yes, specimen: w.addWord(s)}
		}
		if n == api.Unknown {
			out.verdict = api.Unknown
		}
	}
	return out
}

func (w *work) addWord(s string) int {
	var of numbers
	for i := range w.worded.all() {
		if slices.ContainsFunc(w.l[i].Texts, func(t api.Texts) bool { return w.hasText(t, s) }) {
			of = of.with(i)
		}
	}
	at := len(w.specimens)
	w.specimens = append(w.specimens, leaf(api.Value{Kind: api.KText, Text: s}, of))
	w.keep(at, w.specimens[at])
	return at
}

// textOutOf is a text of t, and of no bar. Bars without patterns only leave fewer counts of code points.
func (w *work) textOutOf(t api.Texts, bars []api.Texts) (string, int) {
	var sizes []api.Size
	var others []api.Texts
	for _, b := range bars {
		if len(b.Res) == 0 {
			sizes = append(sizes, b.Size)
		} else {
			others = append(others, b)
		}
	}
	verdict := api.No
	for _, size := range sizesOutOf(t.Size, sizes) {
		s, n := w.textOfSize(api.Texts{Res: t.Res, Size: size}, others)
		if n == api.Yes {
			return s, api.Yes
		}
		if n == api.Unknown {
			verdict = api.Unknown
		}
	}
	return "", verdict
}

// sizesOutOf is the lengths, rising, of a size that are of no bar.
func sizesOutOf(s api.Size, bars []api.Size) []api.Size {
	slices.SortFunc(bars, func(x, y api.Size) int { return cmp.Compare(x.Min, y.Min) })
	var out []api.Size
	low, high := bounds(s)
	for _, b := range bars {
		from, to := bounds(b)
		if from > to || to < low {
			continue
		}
		if low < from && low <= high {
			out = append(out, api.Size{Min: low, Max: min(high, from-1)})
		}
		if to == boundless {
			return out
		}
		low = to + 1
	}
	if low <= high {
		out = append(out, api.Size{Min: low, Max: s.Max})
	}
	return out
}

// textOfSize takes up only those bars that are in the way of a text that has been found.
func (w *work) textOfSize(t api.Texts, bars []api.Texts) (string, int) {
	if len(t.Res)+len(bars) == 0 {
		return textOfCount(t.Size.Min)
	}
	if slices.ContainsFunc(bars, func(b api.Texts) bool { return covers(b, t) }) {
		return "", api.No
	}
	var met []api.Texts
	if t.Size.Min > api.MaxText { // more than may be said; a text that has so many can't be shown
		t.Size.Min = api.MaxText
		met = []api.Texts{{Size: api.Size{Max: api.MaxText}}}
	}
	for {
		s, n := w.ask(t, met)
		if n == api.Unknown {
			return w.textOutOfAll(t, met, bars)
		}
		at := slices.IndexFunc(bars, func(b api.Texts) bool { return n == api.Yes && w.hasText(b, s) })
		if at < 0 {
			return s, n
		}
		var ok bool
		if met, ok = withSet(met, bars[at]); !ok {
			return "", api.Unknown
		}
	}
}

func textOfCount(n int) (string, int) {
	if n > api.MaxText {
		return "", api.Unknown
	}
	return strings.Repeat("a", n), api.Yes
}

// textOutOfAll takes up, beside those that are met, all bars for which there is room: there may be no text, where none
// can be told.
func (w *work) textOutOfAll(t api.Texts, met, bars []api.Texts) (string, int) {
	if len(bars) == 0 {
		return "", api.Unknown
	}
	for _, b := range bars {
		if more, ok := withSet(met, b); ok {
			met = more
		}
	}
	s, n := w.ask(t, met)
	if n == api.Yes && slices.ContainsFunc(bars, func(b api.Texts) bool { return w.hasText(b, s) }) {
		return "", api.Unknown
	}
	return s, n
}

// covers is whether all texts of t are of b, as far as that can be seen.
func covers(b, t api.Texts) bool {
	from, to := bounds(b.Size)
	low, high := bounds(t.Size)
	return from <= low && high <= to && !slices.ContainsFunc(b.Res, func(s string) bool { return !slices.Contains(t.Res, s) })
}

func (w *work) hasText(t api.Texts, s string) bool {
	for _, r := range t.Res {
		w.fuel.payUnits(1 + (len(s)+1)*breadth(r)/matchedAtOnce)
	}
	w.fuel.pay(1)
	return text.Has(t, s)
}

// breadth is how many places a pattern may have: more than bytes, where something stands again and again.
func breadth(r string) int {
	if strings.Contains(r, "{") {
		return maxBreadth
	}
	return len(r)
}

// ask asks with more and more fuel, since it is not told how much of it was of use.
func (w *work) ask(t api.Texts, none []api.Texts) (string, int) {
	for fuel := firstAsk; ; fuel *= askGrowth {
		fuel = min(fuel, w.effort.words)
		s, n := w.findText([]api.Texts{t}, none, fuel)
		if n == api.Unknown && fuel == w.effort.words {
			w.vague = true
		}
		if n != api.Unknown || fuel == w.effort.words {
			return s, n
		}
	}
}

// findText pays for the fuel, and for reading the patterns.
func (w *work) findText(all, none []api.Texts, fuel int) (string, int) {
	read := 0
	for _, t := range slices.Concat(all, none) {
		for _, r := range t.Res {
			read += len(r)
		}
	}
	w.fuel.pay(read / readAtOnce)
	w.fuel.payUnits(fuel)
	return text.Find(all, none, fuel)
}

// withSet is sets, and one more; where there is no room for it, two of one pattern each are put together.
func withSet(l []api.Texts, t api.Texts) ([]api.Texts, bool) {
	for k, x := range l {
		if x.Size == t.Size && len(x.Res) == 1 && len(t.Res) == 1 {
			either := api.Texts{Res: []string{x.Res[0] + "|(" + t.Res[0] + ")"}, Size: t.Size}
			if text.May(either) {
				l[k] = either
				return l, true
			}
		}
	}
	if len(l) == maxSets {
		return nil, false
	}
	return append(l, t), true
}
