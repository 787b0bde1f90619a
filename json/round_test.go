package json_test

import (
	"math"
	"strconv"
	"strings"
	"testing"

	"entrepot/api"
	"entrepot/float"
	"entrepot/json"
	"entrepot/value"
)

// Promise 7.3.

// source is words, the same ones at every call.
type source struct{ state uint64 }

func (s *source) word() uint64 {
	s.state += 0x9E3779B97F4A7C15
	x := s.state
	x = (x ^ x>>30) * 0xBF58476D1CE4E5B9
	x = (x ^ x>>27) * 0x94D049BB133111EB
	return x ^ x>>31
}

func (s *source) below(n int) int { return int(s.word() % uint64(n)) }

// integer is one of any length.
func (s *source) integer() api.Value {
	var v api.Value
	v.Kind = api.KInt
	for i := range s.below(api.Limbs + 1) {
		v.Int.N[i] = s.word() >> s.below(64)
		if s.below(4) == 0 {
			v.Int.N[i] = full
		}
	}
	v.Int.Neg = v.Int.N != (api.Nat{}) && s.below(2) == 0
	return v
}

// plainFloat is one that JSON can say.
func (s *source) plainFloat() api.Value {
	for {
		f := math.Ldexp(float64(s.word()>>11>>s.below(53)|1), -1-s.below(64))
		if s.below(2) == 0 {
			f = -f
		}
		if v := floating(f); float.Class(v.Bits) == api.FPlain {
			return v
		}
	}
}

func (s *source) text() string {
	var out strings.Builder
	points := []rune{0, 1, 8, 9, 10, 11, 12, 13, 31, ' ', '"', '/', '\\', 'a', 'u', 0x7F, 0x80, 0xE9, 0x7FF, 0x800, 0x2028, 0x20AC, 0xD7FF, 0xE000, 0xFFFD, 0xFFFF, 0x10000, 0x1D11E, 0x10FFFF}
	for range s.below(6) {
		out.WriteRune(points[s.below(len(points))])
	}
	return out.String()
}

// any is a value of at most depth levels, now and then with what JSON can't say.
func (s *source) any(depth int) api.Value {
	kinds := 40
	if depth == 1 {
		kinds = 26
	}
	switch n := s.below(kinds); {
	case n < 2:
		return null
	case n < 4:
		return yes
	case n < 5:
		return no
	case n < 11:
		return s.integer()
	case n < 17:
		return s.plainFloat()
	case n < 25:
		return text(s.text())
	case n < 26:
		return []api.Value{{Kind: api.KBytes, Text: s.text()}, {Kind: api.KFloat, Bits: infinity}, {Kind: api.KFloat, Bits: float.NaN}, floating(1e300), floating(1e-30)}[s.below(5)]
	case n < 33:
		v := list()
		for range s.below(5) {
			v.List = append(v.List, s.any(depth-1))
		}
		return v
	}
	return s.anyMap(depth)
}

func (s *source) anyMap(depth int) api.Value {
	v := object("")
	name := ""
	for range s.below(5) {
		if len(name) > 0 || s.below(3) > 0 {
			name += s.text() + "!"
		}
		if len(v.Keys) == 0 || name > v.Keys[len(v.Keys)-1] {
			v.Keys, v.List = append(v.Keys, name), append(v.List, s.any(depth-1))
		}
	}
	return v
}

// scattered is n values, one by one by next.
func scattered(n int, next func(s *source) api.Value) []api.Value {
	var s source
	var out []api.Value
	for range n {
		out = append(out, next(&s))
	}
	return out
}

// ofAnyDepth is a value of at most 6 levels.
func (s *source) ofAnyDepth() api.Value { return s.any(1 + s.below(6)) }

func TestScalarsComeBack(t *testing.T) {
	for _, v := range append(append(scattered(3000, (*source).integer), scattered(3000, (*source).plainFloat)...), null, no, yes, text("")) {
		for _, w := range wrapped(v) {
			comesBack(t, w)
		}
	}
}

func TestValuesComeBack(t *testing.T) {
	n := 0
	for _, v := range scattered(20_000, (*source).ofAnyDepth) {
		if value.In(v, api.JSON) {
			n++
			comesBack(t, v)
		}
	}
	if n < 5000 {
		t.Errorf("of %d alone", n)
	}
}

func TestEachCodePointComesBack(t *testing.T) {
	var part strings.Builder
	for c := rune(0); c <= 0x10FFFF+1; c++ {
		if part.Len() > 4000 || c > 0x10FFFF {
			comesBack(t, list(text(part.String()), member(part.String(), null)))
			part.Reset()
		}
		if c < 0xD800 || c > 0xDFFF {
			part.WriteRune(c)
		}
	}
}

func TestGreatValuesComeBack(t *testing.T) {
	long := strings.Repeat("𝄞", 1024)
	for _, v := range []api.Value{
		nested(15, null), nested(15, list()), nested(14, member("a", half)), list(copies(1000, minus(1))...), {Kind: api.KMap, Keys: names(1000), List: copies(1000, half)}, text(long), member(long, text(long)), text(strings.Repeat("\x00", 4096)),
		list(append(copies(9, list(copies(999, one)...)), list(copies(998, one)...))...), list(copies(300, plus(full, full, full, full))...), list(copies(300, floating(math.Ldexp(1<<53-1, -64)))...),
	} {
		comesBack(t, v)
	}
}

// What is read and written again is written the same once more.
func TestWrittenOnceIsWrittenTwice(t *testing.T) {
	for i, s := range []string{` { "b" : 1.0 , "a" : [ 1e2 , -0 , 5e-1 , "\u0041\/\u00e9\u001F" ] } `, `"\ud834\udd1e\u007f\u000a"`, "[[ ],{ }]", "120e-1"} {
		want := []string{`{"a":[100,0,0.5,"A/é\u001f"],"b":1}`, `"𝄞` + "\x7F" + `\n"`, "[[],{}]", "12"}[i]
		for _, doc := range []string{s, want} {
			v, err := json.Decode([]byte(doc))
			if err != api.OK {
				t.Fatal(strconv.Quote(doc), err)
			}
			writes(t, v, want)
		}
	}
}
