package span_test

import (
	"math/big"
	"slices"
	"testing"

	"entrepot/api"
	"entrepot/span"
	"entrepot/whole"
)

// Promise 9.3, and 9.1's sets, number by number.

func spanOf(lo, hi int64) api.Span {
	return api.Span{HasLo: true, Lo: whole.Of(lo), HasHi: true, Hi: whole.Of(hi)}
}

// agrees holds an answer against what it should have, at each number at which one of the lists, or the answer, may change.
func agrees(t *testing.T, call string, got []api.Span, of [][]api.Span, want func(x *big.Int) bool) {
	t.Helper()
	if !isNorm(got) {
		t.Fatalf("%s = %s: no Norm", call, show(got))
	}
	for _, x := range marks(append(of, got)...) {
		if member(got, x) != want(x) {
			t.Fatalf("%s = %s: %v", call, show(got), x)
		}
		if a, _ := fromBig(x); len(got) <= 1000 && span.Has(got, a) != want(x) {
			t.Fatalf("Has(%s, %v) is %v", show(got), x, !want(x))
		}
	}
	if len(got) <= 1000 {
		is(t, "Norm of "+call, span.Norm(got), got)
	}
}

func agreesAlone(t *testing.T, a []api.Span) {
	t.Helper()
	of := [][]api.Span{a}
	agrees(t, "Norm of "+show(a), span.Norm(a), of, func(x *big.Int) bool { return member(a, x) })
	agrees(t, "Not of "+show(a), span.Not(a), of, func(x *big.Int) bool { return !member(a, x) })
}

func agreesPaired(t *testing.T, a, b []api.Span) {
	t.Helper()
	of := [][]api.Span{a, b}
	both := show(a) + " and " + show(b)
	agrees(t, "Or of "+both, span.Or(a, b), of, func(x *big.Int) bool { return member(a, x) || member(b, x) })
	agrees(t, "And of "+both, span.And(a, b), of, func(x *big.Int) bool { return member(a, x) && member(b, x) })
	same := true
	for _, x := range marks(a, b) {
		same = same && member(a, x) == member(b, x)
	}
	if span.Same(a, b) != same || slices.Equal(span.Norm(a), span.Norm(b)) != same {
		t.Fatalf("Same of %s is %v; %s, %s", both, !same, show(span.Norm(a)), show(span.Norm(b)))
	}
}

// near is all spans whose ends are some numbers, or none.
func near(ends ...string) []api.Span {
	out := set("..")
	for _, lo := range ends {
		out = append(out, set(lo+".. .."+lo)...)
		for _, hi := range ends {
			out = append(out, set(lo+".."+hi)...)
		}
	}
	return out
}

func TestSetsNumberByNumber(t *testing.T) {
	all := near("min", "min+1", "-1", "0", "1", "2", "max-1", "max")
	for _, x := range all {
		for _, y := range all {
			agreesAlone(t, []api.Span{x, y})
			agreesPaired(t, []api.Span{x}, []api.Span{y})
		}
	}
}

func TestSetsOfScatteredSpans(t *testing.T) {
	s := source{1}
	for range 1500 {
		a, b := s.spans(8), s.spans(8)
		agreesAlone(t, a)
		agreesPaired(t, a, b)
	}
	for range 3 {
		agreesPaired(t, s.spans(80), s.spans(80))
	}
}

// All sets of the numbers from -3 to 3, by every way to cut them into spans that begin and end there.
func TestOneNormForAllPieces(t *testing.T) {
	byNumbers := map[int][]api.Span{}
	hold := func(l []api.Span) {
		numbers := 0
		for x := range 7 {
			if member(l, big.NewInt(int64(x)-3)) {
				numbers |= 1 << x
			}
		}
		n := span.Norm(l)
		first, known := byNumbers[numbers]
		if !known {
			byNumbers[numbers] = n
		} else if !slices.Equal(n, first) {
			t.Fatalf("Norm of %s = %s, not %s", show(l), show(n), show(first))
		}
	}
	var all []api.Span
	for lo := int64(-3); lo <= 3; lo++ {
		for hi := int64(-3); hi <= 3; hi++ {
			all = append(all, spanOf(lo, hi))
		}
	}
	hold(nil)
	for _, x := range all {
		for _, y := range all {
			for _, z := range all {
				hold([]api.Span{x, y, z})
			}
		}
	}
	hold(set("-3 -1 1 3"))
	if len(byNumbers) != 1<<7 {
		t.Fatalf("%d sets", len(byNumbers))
	}
	var norms [][]api.Span
	for _, n := range byNumbers {
		if slices.ContainsFunc(norms, func(m []api.Span) bool { return slices.Equal(m, n) }) {
			t.Fatalf("two sets with the Norm %s", show(n))
		}
		norms = append(norms, n)
	}
}

// pieces is the same set in another order: spans cut in two, with what lies within them, and with empty ones.
func (s *source) pieces(l []api.Span) []api.Span {
	out := set("9..5 max..min 0..-1")[:s.below(4)]
	for _, one := range l {
		cut := s.number()
		above, ok := whole.Next(cut)
		if ok && span.Has([]api.Span{one}, cut) && span.Has([]api.Span{one}, above) {
			low, high := one, one
			low.HasHi, low.Hi = true, cut
			high.HasLo, high.Lo = true, above
			out = append(out, low, high, api.Span{HasLo: true, Lo: cut, HasHi: true, Hi: cut})
		} else {
			out = append(out, one)
		}
		if s.below(4) == 0 {
			out = append(out, one)
		}
	}
	s.mixed(out)
	return out
}

func TestOneNormForScatteredPieces(t *testing.T) {
	s := source{2}
	for range 1500 {
		a := s.spans(9)
		b := a
		for range 4 {
			b = s.pieces(b)
		}
		is(t, "Norm of "+show(b), span.Norm(b), span.Norm(a))
		if !span.Same(a, b) || !span.Same(b, a) {
			t.Fatalf("Same of %s and %s is false", show(a), show(b))
		}
	}
}

// What is handed in is not changed, neither the list nor what lies behind it, and shares no memory with what is answered.
func TestNothingIsChangedOrShared(t *testing.T) {
	s := source{3}
	for range 300 {
		all, more := s.spans(12), s.spans(12)
		again, moreAgain := slices.Clone(all), slices.Clone(more)
		a, b := all[:len(all)/2], more[:len(more)/2]
		for _, l := range [][]api.Span{span.Norm(a), span.Not(a), span.Or(a, b), span.Or(a, nil), span.Or(nil, b), span.And(a, b), span.And(a, a), span.And(span.All(), b)} {
			l = l[:cap(l)]
			for i := range l {
				l[i] = spanOf(77, 78)
			}
		}
		span.May(a)
		span.Has(a, num("3"))
		span.Same(a, b)
		span.Pick(a, true, true)
		is(t, "the first list, afterwards", all, again)
		is(t, "the second list, afterwards", more, moreAgain)
	}
}

// A Norm that is handed in is answered as new memory, too.
func TestAnswersAreNew(t *testing.T) {
	norm := set("1..4 7")
	for call, of := range alone() {
		l := of(norm)
		l[0] = spanOf(77, 78)
		is(t, "the list handed to "+call, norm, set("1..4 7"))
	}
	for call, of := range pairings() {
		l := of(norm, norm)
		l[0] = spanOf(77, 78)
		is(t, "the list handed to "+call, norm, set("1..4 7"))
		is(t, call+", another time", of(norm, norm), norm)
	}
}
