package rex

import (
	"strconv"
	"strings"

	"entrepot/api"
	"entrepot/utf"
)

// Print is promise 10.2's. Parse reads just r from its text. Where that would be too long it
// writes what is shortest, so that each pattern that Parse has read can be printed.
func Print(r api.Re) (string, int) {
	if !May(r) {
		return "", api.ErrArg
	}
	if depth(r) > maxReadDepth {
		return "", api.ErrLimit
	}
	s := writer{}.alternative(r)
	if len(s) > maxBytes {
		s = writer{bare: true}.alternative(r)
	}
	if len(s) > maxBytes {
		return "", api.ErrLimit
	}
	return s, api.OK
}

// writer writes \n and \t, or, if bare, the one byte that each of them means.
type writer struct{ bare bool }

func (w writer) alternative(r api.Re) string {
	if r.Kind != api.ReAlt {
		return w.sequence(r)
	}
	var parts []string
	for _, part := range r.L {
		parts = append(parts, w.sequence(part))
	}
	return strings.Join(parts, "|")
}

func (w writer) sequence(r api.Re) string {
	if r.Kind != api.ReSeq {
		return w.piece(r)
	}
	var b strings.Builder
	for _, part := range r.L {
		b.WriteString(w.piece(part))
	}
	return b.String()
}

func (w writer) piece(r api.Re) string {
	if r.Kind != api.ReRep {
		return w.atom(r)
	}
	return w.atom(r.L[0]) + numbersText(r.Min, r.Max)
}

func numbersText(least, most int) string {
	switch {
	case least == 0 && most == endless:
		return "*"
	case least == 1 && most == endless:
		return "+"
	case least == 0 && most == 1:
		return "?"
	case most == endless:
		return "{" + strconv.Itoa(least) + ",}"
	case least == most:
		return "{" + strconv.Itoa(least) + "}"
	}
	return "{" + strconv.Itoa(least) + "," + strconv.Itoa(most) + "}"
}

func (w writer) atom(r api.Re) string {
	if r.Kind != api.ReSet {
		return "(" + w.alternative(r) + ")"
	}
	if len(r.Set) == 1 && r.Set[0].Lo == r.Set[0].Hi {
		return w.point(r.Set[0].Lo, signs)
	}
	if len(r.Set) == 1 && isDigits(r.Set[0]) {
		return digits
	}
	return w.class(r.Set)
}

const digits = `\d`

func isDigits(r api.Range) bool { return r == api.Range{Lo: '0', Hi: '9'} }

// class is the shorter one of two: of what is in a set, and of what is not. Neither may have nothing to name.
func (w writer) class(set []api.Range) string {
	left := others(set)
	if len(left) == 0 {
		return "."
	}
	turned := "[^" + w.ranges(left) + "]"
	if straight := "[" + w.ranges(set) + "]"; len(set) > 0 && len(straight) <= len(turned) {
		return straight
	}
	return turned
}

// ranges writes two that nothing but surrogates divides as one.
func (w writer) ranges(set []api.Range) string {
	var b strings.Builder
	for i := 0; i < len(set); i++ {
		r := set[i]
		if i+1 < len(set) && behind(r.Hi) == set[i+1].Lo {
			i++
			r.Hi = set[i].Hi
		}
		b.WriteString(w.span(r))
	}
	return b.String()
}

func (w writer) span(r api.Range) string {
	from, to := w.point(r.Lo, classSigns), w.point(r.Hi, classSigns)
	switch {
	case isDigits(r):
		return digits
	case r.Lo == r.Hi:
		return from
	case behind(r.Lo) == r.Hi:
		return from + to
	}
	return from + "-" + to
}

// point writes a code point where special ones mean something else.
func (w writer) point(c int, special string) string {
	switch {
	case c == '\n' && !w.bare:
		return `\n`
	case c == '\t' && !w.bare:
		return `\t`
	case isAmong(c, special):
		return `\` + utf.Put(c)
	}
	return utf.Put(c)
}
