package text

import (
	"math"

	"entrepot/api"
)

// counts is numbers of code points from one to another; none, if to is below from.
type counts struct{ from, to int }

// unbounded is where there is no end: no text has so many, and one more still is an int.
const unbounded = math.MaxInt - 1

func countsOf(s api.Size) counts {
	if s.Max == endless {
		return counts{from: s.Min, to: unbounded}
	}
	return counts{from: s.Min, to: s.Max}
}

func (c counts) size() api.Size {
	if c.to == unbounded {
		return api.Size{Min: c.from, Max: endless}
	}
	return api.Size{Min: c.from, Max: c.to}
}

func (c counts) empty() bool { return c.to < c.from }

func (c counts) has(n int) bool { return c.from <= n && n <= c.to }

func (c counts) both(d counts) counts {
	return counts{from: max(c.from, d.from), to: min(c.to, d.to)}
}

// below is those of c that are less than all of d.
func (c counts) below(d counts) counts { return counts{from: c.from, to: min(c.to, d.from-1)} }

// above is those of c that are greater than all of d.
func (c counts) above(d counts) counts { return counts{from: max(c.from, d.to+1), to: c.to} }
