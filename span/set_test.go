package span_test

import (
	"slices"
	"testing"

	"entrepot/api"
	"entrepot/span"
)

// Promise 9.1: Norm, Or, And, Not, All, Same.

func TestNorm(t *testing.T) {
	cases := []struct{ l, want string }{
		{"", ""}, {"9..5", ""}, {"1..0", ""}, {"max..min", ""}, {"9..5 1..-1 max..max-1", ""},
		{"5", "5"}, {"0", "0"}, {"-5", "-5"}, {"1..4", "1..4"}, {"-4..4", "-4..4"}, {"1..", "1.."}, {"..1", "..1"}, {"..", ".."}, {"0..", "0.."}, {"..0", "..0"},
		// touching, overlapping, in one another, apart, alike, empty ones between
		{"1..2 3..4", "1..4"}, {"1..2 4..5", "1..2 4..5"}, {"1 2 3", "1..3"}, {"1 3 5", "1 3 5"}, {"1..5 3..9", "1..9"}, {"1..9 3..5", "1..9"}, {"1..9 1..5", "1..9"}, {"1..9 5..9", "1..9"}, {"1..9 9..12", "1..12"},
		{"4 4 4", "4"}, {"1..4 1..4", "1..4"}, {"1..4 9..5 6..7", "1..4 6..7"}, {"1..4 5..3 6..7", "1..4 6..7"}, {"1..20 3..4 6..7 18..25", "1..25"}, {"1..3 2..5 4..7 6..9", "1..9"}, {"1..20 21 23", "1..21 23"},
		// about 0
		{"-1 0 1", "-1..1"}, {"-1 1", "-1 1"}, {"-3..-1 1..3", "-3..-1 1..3"}, {"-3..-1 0..3", "-3..3"}, {"-3..0 1..3", "-3..3"}, {"..-1 0..", ".."}, {"..-1 1..", "..-1 1.."}, {"..0 0..", ".."}, {"..-2 0..", "..-2 0.."},
		// ends that are missing
		{"1.. 5..", "1.."}, {"..1 ..5", "..5"}, {"..5 5..", ".."}, {"..5 6..", ".."}, {"..5 7..", "..5 7.."}, {"5.. ..2", "..2 5.."}, {".. 1..4", ".."}, {".. ..", ".."}, {"1..4 3.. ..-3 -4..-2 8", "..-2 1.."}, {".. 9..5", ".."}, {"5.. 1..4", "1.."}, {"5.. 1..3", "1..3 5.."}, {"..5 6..8", "..8"}, {"..5 7..8", "..5 7..8"}, {"3..5 4..", "3.."}, {"3..5 ..4", "..5"},
		// the least and the greatest are no ends
		{"min..max", ".."}, {"min..", ".."}, {"..max", ".."}, {"min..5", "..5"}, {"5..max", "5.."}, {"min", "..min"}, {"max", "max.."}, {"min..min", "..min"}, {"max..", "max.."}, {"..min", "..min"},
		{"min max", "..min max.."}, {"min min+1", "..min+1"}, {"min min+2", "..min min+2"}, {"max-1 max", "max-1.."}, {"max-2 max", "max-2 max.."}, {"min+1..max-1", "min+1..max-1"}, {"min min+1..max-1 max", ".."}, {"min+1..max-1 max", "min+1.."}, {"min+1..", "min+1.."}, {"..max-1", "..max-1"}, {"min+1", "min+1"}, {"max-1", "max-1"}, {"..max-1 max", ".."}, {"min min+1..", ".."}, {"5..max 9..max", "5.."}, {"max.. 5..max-1", "5.."},
		// across the limbs
		{"2^64-1 2^64", "2^64-1..2^64"}, {"2^64-1 2^64+1", "2^64-1 2^64+1"}, {"-2^64 -2^64+1", "-2^64..-2^64+1"}, {"2^128..2^192 2^192+1", "2^128..2^192+1"}, {"2^64+3 3", "3 2^64+3"}, {"-2^200 2^200", "-2^200 2^200"},
	}
	for _, c := range cases {
		orders(set(c.l), func(l []api.Span) {
			is(t, "Norm of "+show(l), span.Norm(l), set(c.want))
		})
	}
}

// orders calls f with each order of the list.
func orders(l []api.Span, f func([]api.Span)) {
	if len(l) < 2 {
		f(l)
		return
	}
	for i := range l {
		rest := slices.Delete(slices.Clone(l), i, i+1)
		orders(rest, func(tail []api.Span) { f(append([]api.Span{l[i]}, tail...)) })
	}
}

func TestOr(t *testing.T) {
	cases := []struct{ a, b, want string }{
		{"", "", ""}, {"", "9..5", ""}, {"9..5", "7..6", ""}, {"1..4", "", "1..4"}, {"1..4", "9..5", "1..4"},
		{"1..2", "3..4", "1..4"}, {"1..2", "4..5", "1..2 4..5"}, {"1..5", "3..9", "1..9"}, {"1..9", "3..5", "1..9"}, {"1..4", "1..4", "1..4"}, {"5", "5", "5"}, {"5", "6", "5..6"}, {"5", "7", "5 7"}, {"1 3 5", "2 4", "1..5"}, {"3 1 5", "4", "1 3..5"},
		{"7..9 1..2 5..3", "3 11", "1..3 7..9 11"}, {"1..2 8..9", "4..5", "1..2 4..5 8..9"}, {"1..2 8..9", "2..8", "1..9"}, {"1..2 1..2", "1..3", "1..3"},
		{"-1", "1", "-1 1"}, {"-1 1", "0", "-1..1"}, {"-1", "0", "-1..0"}, {"0", "1", "0..1"}, {"-4..-2", "2..4", "-4..-2 2..4"}, {"..-1", "0..", ".."}, {"..-1", "1..", "..-1 1.."},
		{"..", "", ".."}, {"..", "1..4", ".."}, {"..", "..", ".."}, {"1..", "..4", ".."}, {"1..", "..0", ".."}, {"1..", "..-1", "..-1 1.."}, {"1..", "5..", "1.."}, {"..1", "..5", "..5"}, {"4..", "1..2", "1..2 4.."}, {"4..", "1..3", "1.."}, {"..4", "6..7", "..4 6..7"}, {"..4 9..", "5..8", ".."}, {"..4 9..", "6..7", "..4 6..7 9.."},
		{"min", "max", "..min max.."}, {"min..4", "5..max", ".."}, {"min", "min+1..", ".."}, {"max", "..max-1", ".."}, {"max-1", "max", "max-1.."}, {"min", "min+1", "..min+1"}, {"max", "max-2", "max-2 max.."}, {"min..max", "9..5", ".."},
		{"2^64-1", "2^64", "2^64-1..2^64"}, {"-2^128", "-2^128-1", "-2^128-1..-2^128"},
	}
	for _, c := range cases {
		is(t, "Or of "+c.a+" and "+c.b, span.Or(set(c.a), set(c.b)), set(c.want))
		is(t, "Or of "+c.b+" and "+c.a, span.Or(set(c.b), set(c.a)), set(c.want))
	}
}

func TestAnd(t *testing.T) {
	cases := []struct{ a, b, want string }{
		{"", "", ""}, {"", "..", ""}, {"9..5", "..", ""}, {"9..5", "5..9", ""}, {"1..4", "", ""}, {"1..4", "..", "1..4"}, {"..", "..", ".."}, {"1..4", "1..4", "1..4"},
		{"1..5", "3..9", "3..5"}, {"1..9", "3..5", "3..5"}, {"1..5", "5..9", "5"}, {"1..4", "5..9", ""}, {"1..4", "6..9", ""}, {"1..5 8..12", "3..9", "3..5 8..9"}, {"8..12 1..5 9..1", "3..9 4", "3..5 8..9"}, {"1..5 8..12", "2..3 4..9 12", "2..5 8..9 12"}, {"1 3 5", "2 4", ""}, {"1 3 5", "3..4 5", "3 5"}, {"1..3 4..6", "3..4", "3..4"}, {"1..2 4..9", "..", "1..2 4..9"}, {"1..3 2..4", "4..5 0..1", "1 4"},
		{"-5..5", "-1..1", "-1..1"}, {"-5..0", "0..5", "0"}, {"-5..-1", "1..5", ""}, {"..0", "0..", "0"}, {"..-1", "0..", ""}, {"-5..5", "..-1 1..", "-5..-1 1..5"},
		{"1..", "..4", "1..4"}, {"1..", "..0", ""}, {"1..", "..1", "1"}, {"1..", "5..", "5.."}, {"..1", "..5", "..1"}, {"1..", "-3..2 7", "1..2 7"}, {"..4 9..", "3..10", "3..4 9..10"}, {"..4 9..", "5..8", ""}, {"..4 9..", "2.. ..-2", "..-2 2..4 9.."},
		{"min..4", "..", "..4"}, {"..4", "min..7", "..4"}, {"5..max", "..", "5.."}, {"5..max", "7..", "7.."}, {"min", "..", "..min"}, {"max", "..", "max.."}, {"min", "max", ""}, {"min..0", "0..max", "0"}, {"min..max", "..", ".."}, {"min..max", "min+1..max-1", "min+1..max-1"}, {"..min", "min..", "..min"}, {"max..", "..max", "max.."}, {"min", "min+1..", ""}, {"max", "..max-1", ""},
		{"2^64-5..2^64+5", "..2^64", "2^64-5..2^64"}, {"-2^128..2^128", "2^64.. ..-2^64", "-2^128..-2^64 2^64..2^128"},
	}
	for _, c := range cases {
		is(t, "And of "+c.a+" and "+c.b, span.And(set(c.a), set(c.b)), set(c.want))
		is(t, "And of "+c.b+" and "+c.a, span.And(set(c.b), set(c.a)), set(c.want))
	}
}

func TestNot(t *testing.T) {
	cases := []struct{ l, want string }{
		{"", ".."}, {"9..5", ".."}, {"max..min", ".."}, {"..", ""}, {"min..max", ""}, {".. 1..4 9..5", ""},
		{"5", "..4 6.."}, {"0", "..-1 1.."}, {"-1..1", "..-2 2.."}, {"1..4", "..0 5.."}, {"-4..-1", "..-5 0.."}, {"1", "..0 2.."}, {"-1", "..-2 0.."},
		{"..4", "5.."}, {"4..", "..3"}, {"..-1", "0.."}, {"..0", "1.."}, {"0..", "..-1"}, {"1..", "..0"}, {"..-1 1..", "0"}, {"..-2 2..", "-1..1"},
		{"1..2 3..4", "..0 5.."}, {"1..2 4..5", "..0 3 6.."}, {"4..5 1..2", "..0 3 6.."}, {"1..9 3..5", "..0 10.."}, {"7 9..5 1..3", "..0 4..6 8.."}, {"..1 3 5..", "2 4"}, {"..1 2..", ""}, {"..5 3..", ""},
		{"min", "min+1.."}, {"max", "..max-1"}, {"min max", "min+1..max-1"}, {"min+1..", "..min"}, {"..max-1", "max.."}, {"min+1..max-1", "..min max.."}, {"min+1", "..min min+2.."}, {"max-1", "..max-2 max.."}, {"min..4", "5.."}, {"5..max", "..4"}, {"..min", "min+1.."}, {"max..", "..max-1"}, {"min..-1 1..max", "0"},
		{"2^64", "..2^64-1 2^64+1.."}, {"-2^128..2^192-1", "..-2^128-1 2^192.."},
	}
	for _, c := range cases {
		is(t, "Not of "+c.l, span.Not(set(c.l)), set(c.want))
		is(t, "Not of Not of "+c.l, span.Not(span.Not(set(c.l))), span.Norm(set(c.l)))
	}
}

func TestAll(t *testing.T) {
	is(t, "All()", span.All(), []api.Span{{}})
	is(t, "Not of All()", span.Not(span.All()), nil)
	is(t, "Not of nothing", span.Not(nil), span.All())
	is(t, "Norm of All()", span.Norm(span.All()), span.All())
	for _, a := range marks() {
		if x, _ := fromBig(a); !span.Has(span.All(), x) {
			t.Errorf("All() has no %v", a)
		}
	}
	l := span.All()
	l[0] = api.Span{HasLo: true}
	is(t, "All(), another time", span.All(), []api.Span{{}})
}

func TestSame(t *testing.T) {
	alike := [][]string{
		{"", "9..5", "max..min 1..0"},
		{"..", "min..max", "min..", "..max", "..5 6..", "0.. ..-1", ".. 1..4", "min min+1..max-1 max"},
		{"1..4", "1 2 3 4", "4 3 2 1", "3..4 1..2", "1..3 2..4", "1..4 1..4", "2..3 9..5 1..4", "1..4 5..1"},
		{"1..5"}, {"0..4"}, {"1..3"}, {"2..4"}, {"1..2 4", "4 1..2"}, {"1 3..4"}, {"1"}, {"-1"}, {"0"}, {"-4..-1"}, {"2^64+1"}, {"2^192+1"},
		{"1..", "1..max", "1 2..", "max 1..max-1"}, {"..1", "min..1", "1 0 ..-1"}, {"2.."}, {"..2"}, {"1..max-1"}, {"min+1..1"},
		{"..-1 1..", "1..max min..-1", "..-2 -1 1 2.."}, {"min", "..min"}, {"max", "max.."}, {"min max", "..min max.."},
	}
	for i, as := range alike {
		for k, bs := range alike {
			for _, a := range as {
				for _, b := range bs {
					if span.Same(set(a), set(b)) != (i == k) {
						t.Errorf("Same(%s, %s) is %v", a, b, i != k)
					}
				}
			}
		}
	}
	if !span.Same(nil, []api.Span{}) || !span.Same([]api.Span{}, nil) {
		t.Error("a nil list is not an empty one")
	}
}

func TestManySpans(t *testing.T) {
	odd, even := apart(1000, 1), apart(1000, 2)
	is(t, "Norm of 1,000 spans", span.Norm(odd), odd)
	back := slices.Clone(odd)
	slices.Reverse(back)
	is(t, "Norm of 1,000 spans, the last one first", span.Norm(back), odd)
	is(t, "Norm of 1,000 spans without ends", span.Norm(make([]api.Span, 1000)), span.All())
	is(t, "Or of 1,000 and 1,000 that fill the gaps", span.Or(odd, even), set("1..2000"))
	is(t, "Or of 1,000 and themselves", span.Or(odd, back), odd)
	is(t, "And of 1,000 and themselves", span.And(back, odd), odd)
	is(t, "And of 1,000 and the others", span.And(odd, even), nil)
	is(t, "And of 1,000 and all", span.And(odd, span.All()), odd)
	is(t, "And of 1,000 and 1..4", span.And(odd, set("1..4")), set("1 3"))
	if !span.Same(odd, back) || span.Same(odd, even) || span.Same(odd, odd[1:]) {
		t.Error("Same of 1,000 spans")
	}
}

// An answer is told whole, if it has more spans than a list that is handed in may have.
func TestAnswersOfMoreThanMayBe(t *testing.T) {
	odd := apart(1000, 1)
	others := span.Not(odd)
	if len(others) != 1001 || !slices.Equal(others[:1], set("..0")) || !slices.Equal(others[1:1000], apart(999, 2)) || !slices.Equal(others[1000:], set("2000..")) {
		t.Errorf("Not of 1,000 spans: %d, %s", len(others), show(others))
	}
	is(t, "Norm of 1,001 spans", span.Norm(others), nil)
	far := apart(1000, 2001)
	is(t, "Or of 1,000 and 1,000 others", span.Or(far, odd), slices.Concat(odd, far))
	// 1..3, 5..7, 9..11, .., and 3..5, 7..9, .., each of which meets the last number of one and the first of the next
	low, across := threes(1000, 1), threes(1000, 3)
	met := span.And(low, across)
	if !slices.Equal(met, apart(1999, 3)) {
		t.Errorf("And of 1,000 spans and 1,000 that lie across: %d, %s", len(met), show(met))
	}
}

// threes is n spans of three numbers, each with one number between it and the next.
func threes(n int, first int64) []api.Span {
	var out []api.Span
	for i := range int64(n) {
		out = append(out, spanOf(first+4*i, first+4*i+2))
	}
	return out
}
