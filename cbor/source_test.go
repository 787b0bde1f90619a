package cbor_test

import (
	"math"
	"strings"

	"entrepot/api"
)

// source is words, the same ones at every call.
type source struct{ state uint64 }

func (s *source) word() uint64 {
	s.state += 0x9E3779B97F4A7C15
	x := s.state
	x = (x ^ x>>30) * 0xBF58476D1CE4E5B9
	x = (x ^ x>>27) * 0x94D049BB133111EB
	return x ^ x>>31
}

func (s *source) below(n int) int { return int(s.word() % uint64(n)) }

// short is a word of any length.
func (s *source) short() uint64 { return s.word() >> s.below(64) }

// integer is one of any length.
func (s *source) integer() api.Value {
	v := plus()
	for i := range s.below(api.Limbs + 1) {
		v.Int.N[i] = s.short()
		if s.below(4) == 0 {
			v.Int.N[i] = full
		}
	}
	v.Int.Neg = v.Int.N != (api.Nat{}) && s.below(2) == 0
	return v
}

// float is one of any width, that is no whole number.
func (s *source) float() api.Value {
	for {
		f := math.Float64frombits(s.word())
		switch s.below(4) {
		case 0:
			f = halfOf(s.word() & 0xFFFF)
		case 1:
			f = float64(math.Float32frombits(uint32(s.word())))
		case 2:
			f = math.Ldexp(float64(int64(s.word())>>s.below(64)), -s.below(80))
		}
		if v := number(f); v.Kind == api.KFloat {
			return v
		}
	}
}

func (s *source) text() string {
	var out strings.Builder
	points := []rune{0, 1, 31, ' ', '"', 'a', 'b', 'z', 0x7F, 0x80, 0xE9, 0x7FF, 0x800, 0x20AC, 0xD7FF, 0xE000, 0xFFFD, 0xFFFF, 0x10000, 0x1D11E, 0x10FFFF}
	for range s.below(9) {
		out.WriteRune(points[s.below(len(points))])
	}
	return out.String()
}

func (s *source) bytes() string {
	var b []byte
	for range s.below(40) {
		b = append(b, byte(s.word()))
	}
	return string(b)
}

// any is a value of at most depth levels.
func (s *source) any(depth int) api.Value {
	kinds := 13
	if depth == 1 {
		kinds = 9
	}
	switch s.below(kinds) {
	case 0:
		return []api.Value{null, no, yes}[s.below(3)]
	case 1, 2:
		return s.integer()
	case 3, 4:
		return s.float()
	case 5, 6:
		return text(s.text())
	case 7, 8:
		return raw(s.bytes())
	case 9, 10:
		v := list()
		for range s.below(5) {
			v.List = append(v.List, s.any(depth-1))
		}
		return v
	}
	return s.anyMap(depth)
}

func (s *source) anyMap(depth int) api.Value {
	v := object("")
	name := ""
	for range s.below(6) {
		if s.below(3) == 0 {
			name = string(rune('a' + s.below(26)))
		}
		if len(v.Keys) > 0 {
			name += s.text() + "!"
		}
		if len(v.Keys) == 0 || name > v.Keys[len(v.Keys)-1] {
			v.Keys, v.List = append(v.Keys, name), append(v.List, s.any(depth-1))
		}
	}
	return v
}

// ofAnyDepth is a value of at most 6 levels.
func (s *source) ofAnyDepth() api.Value { return s.any(1 + s.below(6)) }

// scattered is n values, one by one by next.
func scattered(n int, next func(s *source) api.Value) []api.Value {
	var s source
	var out []api.Value
	for range n {
		out = append(out, next(&s))
	}
	return out
}

// head is one of any width that the number has room in.
func (s *source) head(major int, n uint64) string {
	all := heads(major, n)
	return all[s.below(len(all))]
}

// data is a text or byte string, whole or in chunks.
func (s *source) data(major int, all string) string {
	if s.below(3) > 0 {
		return s.head(major, uint64(len(all))) + all
	}
	out := head(major, 0, 31)
	for all != "" || s.below(3) == 0 {
		size := s.below(len(all) + 1)
		for major == textString && !atPoint(all, size) && s.below(20) > 0 {
			size++
		}
		out += s.head(major, uint64(size)) + all[:size]
		all = all[size:]
	}
	return out + stop
}

// item is an item's bytes of at most depth levels, now and then with something wrong in it.
func (s *source) item(depth int) string {
	kinds := 26
	if depth == 1 {
		kinds = 16
	}
	switch n := s.below(kinds); n {
	case 0, 1, 2, 3:
		return s.head(n%2, s.short())
	case 4, 5:
		return s.data(byteString, s.bytes())
	case 6, 7, 8:
		return s.data(textString, s.text())
	case 9:
		return head(simple, 2, s.word()&0xFFFF)
	case 10:
		return head(simple, 4, s.word()&0xFFFFFFFF)
	case 11:
		return head(simple, 8, s.word())
	case 12:
		return s.head(tag, uint64(2+s.below(2))) + s.data(byteString, strings.Repeat("\x00", s.below(3))+s.bytes())
	case 13, 14:
		return []string{"\xF4", "\xF5", "\xF6"}[s.below(3)]
	case 15:
		return []string{"\xF7", "\xF8\x20", "\xC0", "\xC2", "\xC1\x00", "\xFF", "\x1C", "\xE5", "\xF6", "\x00", "\x40", "\x60", "\x80", "\xA0", "\xC3\x40", "\x61\xFF", "\xA1\x00\x00", "\xA2\x60\x00\x60\x00"}[s.below(18)]
	case 16, 17, 18, 19, 20:
		return s.items(array, 1, depth)
	}
	return s.items(mapping, 2, depth)
}

func (s *source) items(major, each, depth int) string {
	n := s.below(5)
	out := ""
	for range n {
		if each == 2 && s.below(40) > 0 {
			out += s.data(textString, s.text())
		} else if each == 2 {
			out += s.item(depth - 1)
		}
		out += s.item(depth - 1)
	}
	if s.below(3) == 0 {
		return head(major, 0, 31) + out + stop
	}
	return s.head(major, uint64(n)) + out
}

// wrapped is v by itself, and as a part of others.
func wrapped(v api.Value) []api.Value {
	return []api.Value{v, list(v), list(null, v, one), member("a", v), object("a b c", one, list(member("x", v)), null), nested(4, member("y", list(v)))}
}
