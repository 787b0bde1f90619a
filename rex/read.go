package rex

import (
	"strings"

	"entrepot/api"
	"entrepot/utf"
)

// What stands for itself only behind a \: outside of classes, and in them.
const (
	signs      = `\.[](){}*+?|^$`
	classSigns = `\[]^-`
)

const maxDigits = 3

// Parse is promise 10.1's. All is read first, for what is no pattern is told ahead of what is too much of one.
func Parse(s string) (r api.Re, err int) {
	if len(s) > maxBytes {
		return api.Re{}, api.ErrLimit
	}
	defer func() {
		if recover() != nil {
			r, err = api.Re{}, api.ErrSyntax
		}
	}()
	in := reader{s: s}
	r = in.whole()
	if in.excess || Size(r) > maxSize || depth(r) > maxReadDepth {
		return api.Re{}, api.ErrLimit
	}
	return r, api.OK
}

// reader panics at a wrong byte. It notes in excess that the numbers of a repeat may not be, and reads on.
type reader struct {
	s      string
	at     int
	excess bool
}

func (in *reader) whole() api.Re {
	r := in.alternative()
	if in.at < len(in.s) {
		panic(api.ErrSyntax)
	}
	return r
}

func (in *reader) alternative() api.Re {
	l := []api.Re{in.sequence()}
	for in.took('|') {
		l = append(l, in.sequence())
	}
	return joined(api.ReAlt, l)
}

func (in *reader) sequence() api.Re {
	var l []api.Re
	for in.at < len(in.s) && in.s[in.at] != '|' && in.s[in.at] != ')' {
		l = append(l, in.piece())
	}
	return joined(api.ReSeq, l)
}

func (in *reader) piece() api.Re {
	r := in.atom()
	switch {
	case in.took('*'):
		return repeated(r, 0, endless)
	case in.took('+'):
		return repeated(r, 1, endless)
	case in.took('?'):
		return repeated(r, 0, 1)
	case in.took('{'):
		least, most := in.numbers()
		in.excess = in.excess || !mayRepeat(least, most)
		return repeated(r, least, most)
	}
	return r
}

// numbers reads what stands behind a brace, and the brace that closes it.
func (in *reader) numbers() (int, int) {
	least := in.number()
	if in.took('}') {
		return least, least
	}
	in.take(',')
	if in.took('}') {
		return least, endless
	}
	most := in.number()
	in.take('}')
	return least, most
}

func (in *reader) number() int {
	from, n := in.at, 0
	for in.at < len(in.s) && in.at < from+maxDigits && in.s[in.at] >= '0' && in.s[in.at] <= '9' {
		n = n*10 + int(in.s[in.at]-'0')
		in.at++
	}
	if in.at == from {
		panic(api.ErrSyntax)
	}
	return n
}

func (in *reader) atom() api.Re {
	c := in.next()
	switch {
	case c == '(':
		r := in.alternative()
		in.take(')')
		return r
	case c == '[':
		return ofSet(in.class())
	case c == '.':
		return ofSet(others(nil))
	case c == '\\':
		return ofSet([]api.Range{in.escaped()})
	case isAmong(c, signs):
		panic(api.ErrSyntax)
	}
	return ofSet([]api.Range{{Lo: c, Hi: c}})
}

func (in *reader) class() []api.Range {
	turned := in.took('^')
	ranges := []api.Range{in.item()}
	for !in.took(']') {
		ranges = append(ranges, in.item())
	}
	set := others(ranges)
	if !turned {
		set = others(set)
	}
	return set
}

func (in *reader) item() api.Range {
	from := in.member()
	if !in.took('-') {
		return from
	}
	to := in.member()
	if from.Lo != from.Hi || to.Lo != to.Hi || to.Lo < from.Lo {
		panic(api.ErrSyntax)
	}
	return api.Range{Lo: from.Lo, Hi: to.Lo}
}

// member is one code point, or the digits.
func (in *reader) member() api.Range {
	c := in.next()
	switch {
	case c == '\\':
		return in.escaped()
	case isAmong(c, classSigns):
		panic(api.ErrSyntax)
	}
	return api.Range{Lo: c, Hi: c}
}

// escaped reads what stands behind a \, in classes and outside of them.
func (in *reader) escaped() api.Range {
	c := in.next()
	switch {
	case c == 'd':
		return api.Range{Lo: '0', Hi: '9'}
	case c == 'n':
		c = '\n'
	case c == 't':
		c = '\t'
	case !isAmong(c, signs) && c != '-' && c != '/':
		panic(api.ErrSyntax)
	}
	return api.Range{Lo: c, Hi: c}
}

func (in *reader) next() int {
	c, size := utf.Next(in.s, in.at)
	if size == 0 || c < 0 {
		panic(api.ErrSyntax)
	}
	in.at += size
	return c
}

func (in *reader) took(b byte) bool {
	if in.at == len(in.s) || in.s[in.at] != b {
		return false
	}
	in.at++
	return true
}

func (in *reader) take(b byte) {
	if !in.took(b) {
		panic(api.ErrSyntax)
	}
}

func isAmong(c int, list string) bool { return strings.ContainsRune(list, rune(c)) }
