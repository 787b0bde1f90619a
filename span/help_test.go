package span_test

import (
	"encoding/binary"
	"math/big"
	"slices"
	"strings"
	"testing"

	"entrepot/api"
	"entrepot/span"
	"entrepot/whole"
)

// num reads a number: digits, 2^k, min or max (the least and the greatest of all), and what is added to it, if anything: -2^53-1.
func num(s string) api.Int {
	base, more := s, "0"
	if at := strings.LastIndexAny(s, "+-"); at > 0 {
		base, more = s[:at], s[at:]
	}
	x := toBig(greatest())
	switch digits, neg := strings.CutPrefix(base, "-"); {
	case base == "min":
		x.Neg(x)
	case strings.HasPrefix(digits, "2^"):
		x.Exp(big.NewInt(2), bigOf(digits[2:]), nil)
		if neg {
			x.Neg(x)
		}
	case base != "max":
		x = bigOf(base)
	}
	a, ok := fromBig(x.Add(x, bigOf(more)))
	if !ok {
		panic("no number: " + s)
	}
	return a
}

func bigOf(s string) *big.Int {
	x, ok := new(big.Int).SetString(s, 10)
	if !ok {
		panic("no digits: " + s)
	}
	return x
}

// set reads spans, divided by blanks: 1..4, 1.., ..4, .., or 5 alone, which is 5..5.
func set(s string) []api.Span {
	var out []api.Span
	for _, word := range strings.Fields(s) {
		lo, hi, ok := strings.Cut(word, "..")
		if !ok {
			hi = lo
		}
		var one api.Span
		if lo != "" {
			one.HasLo, one.Lo = true, num(lo)
		}
		if hi != "" {
			one.HasHi, one.Hi = true, num(hi)
		}
		out = append(out, one)
	}
	return out
}

func greatest() api.Int {
	const full = 1<<64 - 1
	return api.Int{N: api.Nat{full, full, full, full}}
}

// show is spans that fit into a report.
func show(l []api.Span) string {
	var words []string
	for i, s := range l {
		if i == 8 {
			words = append(words, "and so on")
			break
		}
		words = append(words, end(s.HasLo, s.Lo)+".."+end(s.HasHi, s.Hi))
	}
	return "{" + strings.Join(words, " ") + "}"
}

func end(there bool, a api.Int) string {
	switch {
	case there:
		return whole.Print(a)
	case a != api.Int{}:
		return "(" + whole.Print(a) + " that is not there)"
	}
	return ""
}

// is holds what a call answered against a list, span by span.
func is(t *testing.T, call string, got, want []api.Span) {
	t.Helper()
	if !slices.Equal(got, want) {
		t.Errorf("%s = %s, not %s", call, show(got), show(want))
	}
}

func toBig(a api.Int) *big.Int {
	var b []byte
	for _, limb := range slices.Backward(a.N[:]) {
		b = binary.BigEndian.AppendUint64(b, limb)
	}
	x := new(big.Int).SetBytes(b)
	if a.Neg {
		x.Neg(x)
	}
	return x
}

func fromBig(x *big.Int) (api.Int, bool) {
	if x.BitLen() > 256 {
		return api.Int{}, false
	}
	var b [32]byte
	x.FillBytes(b[:])
	a := api.Int{Neg: x.Sign() < 0}
	for i := range a.N {
		a.N[i] = binary.BigEndian.Uint64(b[24-8*i:])
	}
	return a, true
}

// member is whether a number is in one of the spans, by the library's numbers.
func member(l []api.Span, x *big.Int) bool {
	return slices.ContainsFunc(l, func(s api.Span) bool {
		return (!s.HasLo || toBig(s.Lo).Cmp(x) <= 0) && (!s.HasHi || x.Cmp(toBig(s.Hi)) <= 0)
	})
}

// marks is all numbers at which one of the lists may begin or cease to hold: with their neighbours, 0, the least and the greatest.
func marks(lists ...[]api.Span) []*big.Int {
	top := toBig(greatest())
	near := []*big.Int{new(big.Int).Neg(top), new(big.Int), top}
	for _, l := range lists {
		for _, s := range l {
			near = append(near, toBig(s.Lo), toBig(s.Hi))
		}
	}
	var out []*big.Int
	for _, x := range near {
		for d := int64(-1); d <= 1; d++ {
			if y := new(big.Int).Add(x, big.NewInt(d)); y.BitLen() <= 256 {
				out = append(out, y)
			}
		}
	}
	slices.SortFunc(out, (*big.Int).Cmp)
	return slices.CompactFunc(out, func(x, y *big.Int) bool { return x.Cmp(y) == 0 })
}

// isNorm is whether the list is as promise 9.1 asks of a Norm.
func isNorm(l []api.Span) bool {
	least, most := num("min"), num("max")
	for i, s := range l {
		switch {
		case !s.HasLo && (i > 0 || s.Lo != api.Int{}), s.HasLo && s.Lo == least:
			return false
		case !s.HasHi && (i < len(l)-1 || s.Hi != api.Int{}), s.HasHi && s.Hi == most:
			return false
		case s.HasLo && s.HasHi && toBig(s.Lo).Cmp(toBig(s.Hi)) > 0:
			return false
		}
		if i > 0 { // at least one number between
			gap := new(big.Int).Sub(toBig(s.Lo), toBig(l[i-1].Hi))
			if gap.Cmp(big.NewInt(2)) < 0 {
				return false
			}
		}
	}
	return true
}

// source is words, the same ones at every call.
type source struct{ state uint64 }

func (s *source) word() uint64 {
	s.state += 0x9E3779B97F4A7C15
	x := s.state
	x = (x ^ x>>30) * 0xBF58476D1CE4E5B9
	x = (x ^ x>>27) * 0x94D049BB133111EB
	return x ^ x>>31
}

func (s *source) below(n int) int { return int(s.word() % uint64(n)) }

func (s *source) mixed(l []api.Span) {
	for i := range l {
		k := i + s.below(len(l)-i)
		l[i], l[k] = l[k], l[i]
	}
}

// number is near 0, near the edges of what a float has, or anywhere.
func (s *source) number() api.Int {
	near := int64(s.below(9)) - 4
	var a api.Int
	switch s.below(6) {
	case 0, 1:
		return whole.Of(int64(s.below(60)) - 30)
	case 2:
		return whole.Of((int64(s.below(3))-1)<<53 + near)
	case 3:
		for i := range s.below(api.Limbs + 1) {
			a.N[i] = s.word() >> s.below(64)
		}
	case 4:
		x := new(big.Int).Lsh(big.NewInt(1), uint(s.below(255)+1))
		a, _ = fromBig(x.Add(x, big.NewInt(max(near, 0))))
	case 5:
		x := toBig(greatest())
		a, _ = fromBig(x.Sub(x, big.NewInt(max(near, 0))))
	}
	a.Neg = a.N != api.Nat{} && s.below(2) == 0
	return a
}

// spans is up to n of them, some empty, few without ends.
func (s *source) spans(n int) []api.Span {
	var out []api.Span
	for range s.below(n + 1) {
		one := api.Span{HasLo: s.below(20) > 0, HasHi: s.below(20) > 0}
		a := s.number()
		b := a
		if s.below(4) > 0 {
			b = s.number()
		}
		if whole.Cmp(a, b) > 0 && s.below(4) > 0 {
			a, b = b, a
		}
		if one.HasLo {
			one.Lo = a
		}
		if one.HasHi {
			one.Hi = b
		}
		out = append(out, one)
	}
	return out
}

// apart is n spans of one number, the odd ones from first on, each with one number between it and the next.
func apart(n int, first int64) []api.Span {
	var out []api.Span
	for i := range int64(n) {
		a := whole.Of(first + 2*i)
		out = append(out, api.Span{HasLo: true, Lo: a, HasHi: true, Hi: a})
	}
	return out
}

// wrong is spans that may not be.
func wrong() map[string]api.Span {
	none := api.Int{Neg: true} // a sign without a number
	five := num("5")
	return map[string]api.Span{
		"a Lo that is a sign alone":              {HasLo: true, Lo: none},
		"a Hi that is a sign alone":              {HasHi: true, Hi: none},
		"a Lo that may not be below a Hi":        {HasLo: true, Lo: none, HasHi: true, Hi: five},
		"a Hi that may not be above a Lo":        {HasLo: true, Lo: num("-5"), HasHi: true, Hi: none},
		"both ends that are a sign alone":        {HasLo: true, Lo: none, HasHi: true, Hi: none},
		"a Lo that is not there":                 {Lo: five},
		"a Hi that is not there":                 {Hi: five},
		"a Lo that is not there, below none":     {Lo: num("-5")},
		"a Lo that is not there, of a high limb": {Lo: num("2^192")},
		"a Lo that is not there below a Hi":      {Lo: num("1"), HasHi: true, Hi: five},
		"a Hi that is not there above a Lo":      {HasLo: true, Lo: num("1"), Hi: five},
		"a Lo that is not there and a sign":      {Lo: none},
		"a Hi that is not there and a sign":      {Hi: none},
	}
}

// lists is every one that may not be: a wrong span alone, first, last, in the midst; too many spans.
func lists() map[string][]api.Span {
	out := map[string][]api.Span{"1,001 spans": apart(1001, 1), "1,001 spans without ends": make([]api.Span, 1001), "1,001 empty spans": slices.Repeat(set("9..5"), 1001)}
	for name, s := range wrong() {
		out[name] = []api.Span{s}
		out[name+", first"] = append([]api.Span{s}, set("1..4 7")...)
		out[name+", last"] = append(set("1..4 7"), s)
		out[name+", in the midst"] = slices.Concat(set(".. 1..4"), []api.Span{s}, set("9..5 7"))
		out[name+", of 1,000"] = append(apart(999, 1), s)
	}
	return out
}

// pairings is all calls that answer a set of two.
func pairings() map[string]func(a, b []api.Span) []api.Span {
	return map[string]func(a, b []api.Span) []api.Span{"Or": span.Or, "And": span.And}
}

// alone is all calls that answer a set of one.
func alone() map[string]func(a []api.Span) []api.Span {
	return map[string]func(a []api.Span) []api.Span{"Norm": span.Norm, "Not": span.Not}
}
