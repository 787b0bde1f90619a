package incl

import (
	"slices"

	"entrepot/api"
)

const maxNested = 16 // states that are gone through while others are

// What a state costs that was not there yet.
const stateCost = 16

// state is what is known of a pair. What is asked of it while nothing is known of it is told as of one that
// has no values; who has asked looks again, if it has some.
type state struct {
	pair     pair
	found    bool // it has a value, or it is not known whether it has a text
	specimen int  // the one that is found; none, if that is not known
	looked   int  // how many of the pool have been looked at
	waiting  bool // it is to be gone through
	askers   []int
}

// level is a state and a depth.
type level struct{ at, depth int }

// work is one effort.
type work struct {
	l         []api.Type
	there     numbers
	parts     int     // how many Arrays and Maps there are
	worded    numbers // the types that have texts
	fuel      *meter
	effort    effort
	specimens []specimen
	leaves    int             // so many specimens, the first ones, are all that there are without parts, but texts
	pool      []int           // those that are gone through
	room      int             // for so many more that have parts
	kept      map[numbers]int // one of the pool, by its types
	numbers   map[pair]int    // the states
	states    []state
	waiting   []int
	nested    int
	levels    map[level]int // specimens of so much depth
	words     map[pair]word
	known     [api.MaxTypes]numbers // the types of which it is known whether they are apart from one
	parted    [api.MaxTypes]numbers
	vague     bool // there was a question for texts that more fuel may answer
	refused   bool // there was a value of too many nodes
}

func newWork(l []api.Type, there numbers, leaves []specimen, fuel *meter, e effort) *work {
	w := &work{l: l, there: there, fuel: fuel, effort: e, specimens: slices.Clone(leaves), leaves: len(leaves), kept: map[numbers]int{}, room: maxPool, numbers: map[pair]int{}, levels: map[level]int{}, words: map[pair]word{}}
	for k, x := range leaves {
		w.keep(k, x)
	}
	for i := range there.all() {
		w.parts += len(l[i].Arrays) + len(l[i].Maps)
		if len(l[i].Texts) > 0 {
			w.worded = w.worded.with(i)
		}
	}
	return w
}

// tell is Yes, if a pair has no value, No and a value, or Unknown.
func (w *work) tell(p pair) (int, api.Value) {
	at := w.at(p)
	if at == none || !w.settled(at) {
		return api.Yes, api.Value{}
	}
	if k := w.states[at].specimen; k != none && w.specimens[k].may {
		return api.No, w.build(k)
	}
	for depth := 1; depth <= api.MaxDepth; depth++ {
		if k := w.within(p, depth); k != none {
			return api.No, w.build(k)
		}
	}
	return api.Unknown, api.Value{}
}

// at is the place of a pair's state; none of a pair that can't have values. What is apart from the type
// that stands in in is no reason for anything to be out.
func (w *work) at(p pair) int {
	if p.out.has(p.in) {
		return none
	}
	p.out = w.meeting(p)
	at, ok := w.numbers[p]
	if !ok {
		w.fuel.pay(stateCost)
		at = len(w.states)
		w.numbers[p] = at
		w.states = append(w.states, state{pair: p, specimen: none, waiting: true})
		w.waiting = append(w.waiting, at)
	}
	return at
}

// settled is whether a state has values; if not, it is sure that there are none.
func (w *work) settled(at int) bool {
	for !w.states[at].found && len(w.waiting) > 0 {
		last := len(w.waiting) - 1
		next := w.waiting[last]
		w.waiting = w.waiting[:last]
		w.goThrough(next)
	}
	return w.states[at].found
}

// goThrough looks for values of a state.
func (w *work) goThrough(at int) {
	if w.states[at].found || !w.states[at].waiting {
		return
	}
	w.states[at].waiting = false
	p := w.states[at].pair
	if w.isPooled(at) {
		return
	}
	if x := w.wordOf(p); x.verdict != api.No {
		w.find(at, x.specimen)
		return
	}
	w.nested++
	over := func() bool { return w.states[at].found }
	cost := func(p pair) int { return w.asked(at, p) }
	for f := range w.frames(p, boundless) {
		fit := fit{w: w, frame: f, cost: cost, over: over, ends: ends{cost: boundless, parts: boundless}}
		if parts, ok := fit.run(); ok {
			w.find(at, w.add(f.kind, parts, func(p pair) int { return w.states[w.at(p)].specimen }))
		}
		if over() {
			break
		}
	}
	w.nested--
}

// asked is what a state may tell another one of a pair: how many nodes a value of that has; none, if nothing
// is known of it.
func (w *work) asked(asker int, p pair) int {
	at := w.at(p)
	if at == none {
		return none
	}
	if w.nested < maxNested {
		w.goThrough(at)
	}
	if !w.states[at].found && !w.isPooled(at) {
		s := &w.states[at]
		if n := len(s.askers); n == 0 || s.askers[n-1] != asker {
			s.askers = append(s.askers, asker)
		}
		return none
	}
	if k := w.states[at].specimen; k != none {
		return w.specimens[k].nodes
	}
	return 1
}

// isPooled is whether the pool has a specimen of a state that has none. Each one is looked at once.
func (w *work) isPooled(at int) bool {
	s := &w.states[at]
	w.fuel.pay((len(w.pool) - s.looked) / specimensAtOnce)
	found := none
	for _, k := range w.pool[s.looked:] {
		if x := &w.specimens[k]; x.isOf(s.pair) && (found == none || x.may) {
			if found = k; x.may {
				break
			}
		}
	}
	s.looked = len(w.pool)
	if found == none {
		return false
	}
	w.find(at, found)
	return true
}

// find makes those look again that have been told that there is nothing.
func (w *work) find(at, specimen int) {
	s := &w.states[at]
	if s.specimen == none {
		s.found, s.specimen = true, specimen
	}
	for _, k := range s.askers {
		if x := &w.states[k]; !x.found && !x.waiting {
			x.waiting = true
			w.waiting = append(w.waiting, k)
		}
	}
	s.askers = nil
}

// nodesWithin is how many nodes the specimen has that is found for a pair within so much depth.
func (w *work) nodesWithin(p pair, depth int) int {
	if k := w.within(p, depth); k != none {
		return w.specimens[k].nodes
	}
	return none
}

// within is a specimen of a pair, that may be, of at most so much depth.
func (w *work) within(p pair, depth int) int {
	at := w.at(p)
	if at == none || depth == 0 {
		return none
	}
	key := level{at: at, depth: depth}
	best, ok := w.levels[key]
	if !ok {
		best = w.search(at, depth)
		w.levels[key] = best
	}
	return best
}

// search takes up what there is within less depth, and what is in the pool. Unless the fewest nodes are
// looked for, that will do.
func (w *work) search(at, depth int) int {
	if !w.settled(at) {
		return none
	}
	p := w.states[at].pair
	best := w.bestPooled(p, depth)
	if k, ok := w.levels[level{at: at, depth: depth - 1}]; ok {
		best = w.better(best, k)
	}
	limit := maxNodes
	if best != none {
		limit = w.specimens[best].nodes - 1
	}
	if best != none && !w.effort.fewest || limit == 0 {
		return best
	}
	cost := func(p pair) int { return w.nodesWithin(p, depth-1) }
	over := func() bool { return false }
	for f := range w.frames(p, api.MaxItems) {
		fit := fit{w: w, frame: f, cost: cost, over: over, ends: ends{cost: limit, parts: api.MaxItems, shown: true}}
		parts, ok := fit.run()
		if !ok {
			continue
		}
		best = w.add(f.kind, parts, func(p pair) int { return w.within(p, depth-1) })
		if !w.effort.fewest {
			break
		}
		limit = w.specimens[best].nodes - 1
	}
	return best
}

// bestPooled is the one of the pool that has the fewest nodes.
func (w *work) bestPooled(p pair, depth int) int {
	w.fuel.pay(len(w.pool) / specimensAtOnce)
	best := none
	for _, k := range w.pool {
		if x := &w.specimens[k]; x.may && x.depth <= depth && x.isOf(p) {
			best = w.better(best, k)
		}
	}
	return best
}

// better is the one of two specimens that has fewer nodes.
func (w *work) better(j, k int) int {
	if j == none || k != none && w.specimens[k].nodes < w.specimens[j].nodes {
		return k
	}
	return j
}
