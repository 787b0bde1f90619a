package incl

import (
	"cmp"
	"iter"
	"slices"
)

// States of a seat.
const (
	open  = 0 // it may be there, and need not
	taken = 1 // it is there
	empty = 2 // it is not there
)

// seat is what has been settled of a place: what stands there is of no type in out, at that cost.
type seat struct {
	state, cost int
	out         numbers
}

// move makes a way work: place at (behind all places: a further one) gets a seat, for so much more.
type move struct {
	at, add int
	seat    seat
}

// fit looks for seats by which a way works of each bar of a frame.
type fit struct {
	w     *work
	frame *frame
	cost  func(pair) int // of a value of a pair; none, if there is none
	over  func() bool    // nothing is looked for any more
	ends  ends
	fill  int     // the cost of a further one of which nothing is asked
	sum   int     // of the seats
	count int     // of those that are taken
	seats []seat  // of the places, then of further ones
	easy  [][]way // the bars for which a further one of their own will always do
	best  []part
	done  bool
}

// ends is what a value may cost, how many parts it may have, and whether it is to be shown.
type ends struct {
	cost, parts int
	shown       bool
}

// run tells the parts that cost the least, or, unless the fewest nodes are looked for, the first ones, and
// whether there are such.
func (f *fit) run() ([]part, bool) {
	for _, p := range f.frame.places {
		s := seat{}
		if p.must {
			s.state, s.cost = taken, f.cost(pair{in: p.in})
			if s.cost == none {
				return nil, false
			}
		}
		f.put(len(f.seats), s)
	}
	if f.frame.least > 0 {
		if f.fill = f.cost(pair{in: f.frame.rest}); f.fill == none {
			return nil, false
		}
	}
	if !f.fits(0, 0) {
		return nil, false
	}
	hard := f.setEasyApart()
	f.try(hard)
	return f.best, f.done
}

// total is the cost of all.
func (f *fit) total() int {
	return 1 + f.sum + max(0, f.frame.least-f.extra())*f.fill
}

// extra is how many further seats there are.
func (f *fit) extra() int { return len(f.seats) - len(f.frame.places) }

// fits is whether so much more may be spent, and so many more seats be taken.
func (f *fit) fits(cost, parts int) bool {
	if f.total()+cost > f.ends.cost || f.count+parts > f.ends.parts {
		f.w.refused = true
		return false
	}
	return true
}

// put gives a seat, behind all others too; the one that was there is told.
func (f *fit) put(at int, s seat) seat {
	if at == len(f.seats) {
		f.seats = append(f.seats, seat{})
	}
	was := f.seats[at]
	f.seats[at] = s
	f.sum += s.cost - was.cost
	f.count += s.taken() - was.taken()
	return was
}

func (s seat) taken() int {
	if s.state == taken {
		return 1
	}
	return 0
}

// setEasyApart tells the bars that are left: not those of which a way works as it is, nor those for which a
// further one of their own will do, whatever becomes of others. These are looked at last.
func (f *fit) setEasyApart() [][]way {
	var hard [][]way
	bars := f.left(f.frame.bars)
	free := !f.w.effort.fewest && f.frame.most >= len(bars)
	for _, bar := range bars {
		at := slices.IndexFunc(bar, func(x way) bool { return x.at == further })
		if free && at >= 0 && f.cost(f.asked(bar[at].not)) != none {
			f.easy = append(f.easy, bar)
		} else {
			hard = append(hard, bar)
		}
	}
	return hard
}

// asked is the pair of a further one that is not of a type.
func (f *fit) asked(not int) pair {
	p := pair{in: f.frame.rest}
	if not != present {
		p.out = p.out.with(not)
	}
	return p
}

// left is the bars of which no way works yet.
func (f *fit) left(bars [][]way) [][]way {
	var out [][]way
	for _, bar := range bars {
		f.w.fuel.pay(1 + (len(bar)+f.extra())/waysAtOnce)
		if !slices.ContainsFunc(bar, f.works) {
			out = append(out, bar)
		}
	}
	return out
}

func (f *fit) works(x way) bool {
	switch {
	case x.at != further:
		return f.seats[x.at].does(x.not)
	case x.not == present:
		return f.frame.least > 0 || f.extra() > 0
	}
	return slices.ContainsFunc(f.seats[len(f.frame.places):], func(s seat) bool { return s.does(x.not) })
}

// does is whether a seat is what a way asks for.
func (s seat) does(not int) bool {
	switch not {
	case absent:
		return s.state == empty
	case present:
		return s.state == taken
	}
	return s.state == taken && s.out.has(not)
}

// try goes on from bar to bar, and back. It tells whether it has ended.
func (f *fit) try(bars [][]way) bool {
	bars = f.left(bars)
	if len(bars) == 0 {
		return f.finish()
	}
	if f.over() {
		return true
	}
	for m := range f.ordered(f.moves(f.tightest(bars))) {
		n := len(f.seats)
		was := f.put(m.at, m.seat)
		if f.try(bars) {
			return true
		}
		f.put(m.at, was)
		f.seats = f.seats[:n]
	}
	return false
}

// tightest is a bar that has no move or one, if there is one, else the first one.
func (f *fit) tightest(bars [][]way) []way {
	if len(bars) > 1 {
		for _, bar := range bars {
			if !f.hasTwoMoves(bar) {
				return bar
			}
		}
	}
	return bars[0]
}

func (f *fit) hasTwoMoves(bar []way) bool {
	n := 0
	for range f.moves(bar) {
		if n++; n == 2 {
			return true
		}
	}
	return false
}

// ordered is moves, those that cost the least first; where any will do, as they come, so that nothing is asked
// for those that will not be made.
func (f *fit) ordered(moves iter.Seq[move]) iter.Seq[move] {
	if !f.ends.shown {
		return moves
	}
	return slices.Values(slices.SortedStableFunc(moves, func(x, y move) int { return cmp.Compare(x.add, y.add) }))
}

// moves is what makes a way of a bar work, if it can.
func (f *fit) moves(bar []way) iter.Seq[move] {
	return func(yield func(move) bool) {
		for _, x := range bar {
			if x.at == further {
				for at := len(f.frame.places); at <= len(f.seats); at++ {
					if m, ok := f.furtherMove(at, x.not); ok && !yield(m) {
						return
					}
				}
			} else if m, ok := f.placeMove(x); ok && !yield(m) {
				return
			}
		}
	}
}

func (f *fit) placeMove(x way) (move, bool) {
	s := f.seats[x.at]
	switch {
	case x.not == absent:
		return move{at: x.at, seat: seat{state: empty}}, s.state == open
	case s.state == empty:
		return move{}, false
	}
	return f.moveTo(x.at, f.frame.places[x.at].in, s, x.not)
}

// furtherMove is to a further seat that there is, or to a new one.
func (f *fit) furtherMove(at, not int) (move, bool) {
	if at < len(f.seats) {
		return f.moveTo(at, f.frame.rest, f.seats[at], not)
	}
	if f.extra() == f.frame.most {
		return move{}, false
	}
	return f.moveTo(at, f.frame.rest, seat{}, not)
}

// moveTo is false, if nothing can stand there, or too much would be spent.
func (f *fit) moveTo(at, in int, s seat, not int) (move, bool) {
	f.w.fuel.pay(1)
	next := seat{state: taken, out: s.out}
	if not != present {
		next.out = next.out.with(not)
	}
	next.cost = f.cost(pair{in: in, out: next.out})
	if next.cost == none {
		return move{}, false
	}
	m := move{at: at, add: next.cost - s.cost, seat: next}
	if at == len(f.seats) && f.extra() < f.frame.least { // it takes the place of one of which nothing is asked
		m.add -= f.fill
	}
	return m, f.fits(m.add, next.taken()-s.taken())
}

// finish is reached where ways work of all bars but the easy ones. It tells whether it has ended.
func (f *fit) finish() bool {
	f.w.fuel.pay(1 + len(f.seats)/waysAtOnce)
	kept, sum, count := slices.Clone(f.seats), f.sum, f.count
	ok := f.seatEasy() && f.fits(0, 0)
	if ok {
		f.best, f.done = f.parts(), true
		f.ends.cost = f.total() - 1
	}
	f.seats, f.sum, f.count = kept, sum, count
	return ok && !f.w.effort.fewest
}

// seatEasy makes a way of each easy bar work.
func (f *fit) seatEasy() bool {
	for _, bar := range f.easy {
		if len(f.left([][]way{bar})) == 0 {
			continue
		}
		m, ok := f.easyMove(bar)
		if !ok {
			return false
		}
		f.put(m.at, m.seat)
	}
	return true
}

// easyMove is the one that costs the least; where any will do, nothing is asked that was not asked before.
func (f *fit) easyMove(bar []way) (move, bool) {
	best, found := move{}, false
	if !f.ends.shown {
		return f.readyMove(bar)
	}
	for m := range f.moves(bar) {
		if !found || m.add < best.add {
			best, found = m, true
		}
	}
	return best, found
}

func (f *fit) readyMove(bar []way) (move, bool) {
	best, found := move{}, false
	for _, x := range bar {
		if x.not == absent {
			if m, ok := f.placeMove(x); ok {
				return m, true
			}
		}
		if x.at == further {
			best, found = f.furtherMove(len(f.seats), x.not)
		}
	}
	return best, found
}
