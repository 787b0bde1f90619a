package span_test

import (
	"slices"
	"testing"

	"entrepot/api"
	"entrepot/span"
)

// Promise 9.1: May, Has, and what is said of lists that may not be.

func TestMay(t *testing.T) {
	for _, s := range []string{"", "0", "..", "1..", "..1", "1..4", "4..1", "4..1 9..5", ".. .. ..", "min..max", "max..min", "min max", "-5..-7 2^255 ..0 0.."} {
		if !span.May(set(s)) {
			t.Errorf("May(%s) is false", s)
		}
	}
	if !span.May([]api.Span{}) {
		t.Error("an empty list that is not nil")
	}
	for name, l := range map[string][]api.Span{"apart": apart(1000, -999), "without ends": make([]api.Span, 1000), "empty": slices.Repeat(set("9..5"), 1000)} {
		if !span.May(l) {
			t.Errorf("May of 1,000 spans, %s, is false", name)
		}
	}
	for name, l := range lists() {
		if span.May(l) {
			t.Errorf("May of %s", name)
		}
	}
}

func TestHas(t *testing.T) {
	cases := []struct {
		l       string
		in, out []string
	}{
		{"", nil, []string{"0", "1", "-1", "min", "max"}},
		{"9..5", nil, []string{"5", "7", "9", "0"}},
		{"1..-1", nil, []string{"-1", "0", "1"}},
		{"5", []string{"5"}, []string{"4", "6", "-5", "0", "2^64+5"}},
		{"0", []string{"0"}, []string{"1", "-1"}},
		{"1..4", []string{"1", "2", "4"}, []string{"0", "5", "-1", "-2", "-4", "2^64+2"}},
		{"-4..-1", []string{"-4", "-3", "-1"}, []string{"-5", "0", "1", "4"}},
		{"-1..1", []string{"-1", "0", "1"}, []string{"-2", "2"}},
		{"3..", []string{"3", "4", "2^64", "max"}, []string{"2", "0", "-3", "min"}},
		{"..3", []string{"3", "0", "-2^64", "min"}, []string{"4", "2^64", "max"}},
		{"..-3", []string{"-3", "-4", "min"}, []string{"-2", "0", "3", "max"}},
		{"..", []string{"0", "1", "-1", "2^128", "min", "max"}, nil},
		{"min..max", []string{"0", "min", "max"}, nil},
		{"max", []string{"max"}, []string{"max-1", "min", "0"}},
		{"min", []string{"min"}, []string{"min+1", "max", "0"}},
		{"max-1..", []string{"max-1", "max"}, []string{"max-2"}},
		{"7..8 1..2 9..5 4", []string{"1", "2", "4", "7", "8"}, []string{"0", "3", "5", "6", "9"}},
		{"1..8 3..4 2..9", []string{"1", "2", "3", "5", "8", "9"}, []string{"0", "10"}},
		{"..-3 3..", []string{"-3", "3", "min", "max"}, []string{"-2", "0", "2"}},
		{"2^64..2^64+1 -2^200", []string{"2^64", "2^64+1", "-2^200"}, []string{"2^64-1", "2^64+2", "0", "1", "2^200", "-2^200+1"}},
	}
	for _, c := range cases {
		for _, s := range c.in {
			if !span.Has(set(c.l), num(s)) {
				t.Errorf("Has(%s, %s) is false", c.l, s)
			}
		}
		for _, s := range c.out {
			if span.Has(set(c.l), num(s)) {
				t.Errorf("Has(%s, %s)", c.l, s)
			}
		}
	}
	many := apart(1000, 1)
	if !span.Has(many, num("1")) || !span.Has(many, num("1999")) || span.Has(many, num("2000")) || span.Has(many, num("2001")) {
		t.Error("Has of 1,000 spans")
	}
}

func TestHasOfANumberThatMayNotBe(t *testing.T) {
	for _, s := range []string{"", "0", "-1..1", "0..", "..0", "..", "1..4 ..-3", "min..max"} {
		if span.Has(set(s), api.Int{Neg: true}) {
			t.Errorf("Has(%s, a sign without a number)", s)
		}
	}
}

// Of lists that may not be: false, nothing.
func TestListsThatMayNotBe(t *testing.T) {
	for name, l := range lists() {
		for _, s := range []string{"0", "1", "5", "-5", "7", "min", "max"} {
			if span.Has(l, num(s)) {
				t.Errorf("%s: Has %s", name, s)
			}
		}
		for call, of := range alone() {
			is(t, call+" of "+name, of(l), nil)
		}
		for call, of := range pairings() {
			for _, s := range []string{"", "1..4", "..", "9..5"} {
				is(t, call+" of "+name+" and "+s, of(l, set(s)), nil)
				is(t, call+" of "+s+" and "+name, of(set(s), l), nil)
			}
			is(t, call+" of "+name+" twice", of(l, l), nil)
		}
		for _, s := range []string{"", "1..4 7", ".."} {
			if span.Same(l, set(s)) || span.Same(set(s), l) {
				t.Errorf("%s: Same as %s", name, s)
			}
		}
		if span.Same(l, l) {
			t.Errorf("%s: Same as itself", name)
		}
		for _, kind := range kinds() {
			if a, ok := span.Pick(l, kind.exact, kind.rough); ok || a != (api.Int{}) {
				t.Errorf("%s: Pick(%v) = %v, %v", name, kind, a, ok)
			}
		}
	}
}
