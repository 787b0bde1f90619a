package dfa_test

import (
	"math"
	"strings"
	"testing"

	"entrepot/api"
)

// Promise 11.1: how many code points there may be, and how many bytes may be told.

func TestSizes(t *testing.T) {
	for _, c := range []struct {
		all, none string
		size      api.Size
		want      int
	}{
		{"a*", "", just(0), api.Yes}, {"a+", "", just(0), api.No}, {"", "()", just(0), api.No}, {"", "", just(0), api.Yes}, {"", "()", sized(0, 1), api.Yes}, {"a", "", sized(0, 0), api.No}, {"a", "", sized(0, 1), api.Yes}, {"a", "", sized(1, 1), api.Yes}, {"a", "", sized(1, -1), api.Yes}, {"a", "", sized(2, -1), api.No}, {"a", "", sized(2, 5), api.No},
		{"(aa)*", "", just(7), api.No}, {"(aa)*", "", just(8), api.Yes}, {"(aa)*", "", sized(7, 8), api.Yes}, {"(aa)* (aaa)*", "", sized(1, 5), api.No}, {"(aa)* (aaa)*", "", sized(1, 6), api.Yes}, {"(aa)* (aaa)*", "", sized(7, 11), api.No}, {"(aa)* (aaa)*", "", sized(7, -1), api.Yes}, {"a{3}|a{7}", "", sized(4, 6), api.No}, {"a{3}|a{7}", "", sized(4, 7), api.Yes}, {"a{3}|a{7}", "", sized(3, 4), api.Yes}, {"a{3}|a{7}", "", sized(8, -1), api.No},
		{"(ab)+c", "", just(20), api.No}, {"(ab)+c", "", just(19), api.Yes}, {"[a-c]+", "a+", just(2), api.Yes}, {"[a-c]+", "a+ b+ c+", just(1), api.No}, {"[a-c]+", "a+ b+ c+", just(2), api.Yes}, {".*", ".{0,20}", sized(0, 20), api.No}, {".*", ".{0,20}", sized(0, 21), api.Yes}, {"é{2}", "", just(2), api.Yes}, {"é{2}", "", just(4), api.No}, {"𝄞?", "", just(4), api.No},
	} {
		finds(t, c.all, c.none, c.size, c.want)
	}
}

// Each count of small sizes, against a walk over counts.
func TestSizesOfRounds(t *testing.T) {
	rounds := parsed(t, "(a{3})*(b{5})?")
	for least := range 20 {
		for most := least; most < 20; most++ {
			want := api.No
			for n := least; n <= most; n++ {
				if n%3 == 0 || n >= 5 && (n-5)%3 == 0 {
					want = api.Yes
				}
			}
			tells(t, rounds, nil, sized(least, most), plenty, want)
		}
		tells(t, rounds, nil, sized(least, -1), plenty, api.Yes)
	}
}

func TestSizesThatMayNotBe(t *testing.T) {
	for _, size := range []api.Size{sized(-1, -1), sized(-1, 0), sized(-1, 5), sized(math.MinInt, 5), sized(math.MinInt, math.MaxInt), sized(0, -2), sized(0, -3), sized(5, -2), sized(0, math.MinInt), sized(1, 0), sized(3, 2), sized(4096, 4095), sized(0, 4097), sized(4096, 4097), sized(4097, 4097), sized(4097, -1), sized(4097, 4096), sized(5000, 6000), sized(math.MaxInt, -1), sized(math.MaxInt, math.MaxInt), sized(0, math.MaxInt), sized(-2, -2), sized(math.MaxInt, math.MinInt)} {
		for _, fuel := range []int{plenty, math.MaxInt, 1, 0, -1, math.MinInt} {
			tells(t, nil, nil, size, fuel, wrong)
			tells(t, parsed(t, "a*"), nil, size, fuel, wrong)
			tells(t, nil, parsed(t, ".*"), size, fuel, wrong)
			tells(t, []api.Re{{}}, nil, size, fuel, wrong)
		}
	}
}

func TestGreatSizes(t *testing.T) {
	for _, size := range []api.Size{just(4096), sized(4096, -1), sized(4095, 4096), sized(4095, -1)} {
		for _, all := range []string{"", "a*", ".*", "(aa)* .*", ".*a.*", ".+b", "(ab|cde)*f?"} {
			if s := finds(t, all, "", size, api.Yes); len(s) < size.Min {
				t.Errorf("%s: %s", all, brief(s))
			}
		}
		finds(t, "a*b", "a* .b.*", size, api.Yes)
		finds(t, "a*b", "a+b", size, api.No)
		finds(t, "a{0,20}", "", size, api.No)
		finds(t, "[ab]*", ".*", size, api.No)
	}
	finds(t, "(aa)*", "", just(4095), api.No)
	finds(t, "(aa)*", "", just(4094), api.Yes)
	finds(t, "(aa)* (aaa)*", "", sized(4093, 4096), api.No)
	finds(t, "(aa)* (aaa)*", "", sized(4092, 4096), api.Yes)
	finds(t, "(aa)* (aaa)*", "", sized(4090, 4091), api.No)
	finds(t, "a*", "", sized(0, 4096), api.Yes)
	finds(t, "a*b", "b.* a+b", sized(0, 4096), api.No)
	finds(t, ".*", ".{0,20} .{20}.*", sized(0, 4096), api.No)
}

// A text may have at most 4,096 bytes to be told; where there are longer ones alone it is Unknown, not No.
func TestMostBytes(t *testing.T) {
	for c, most := range map[string]int{"a": 4096, "é": 2048, "€": 1365, "𝄞": 1024} {
		for n, want := range map[int]int{most - 1: api.Yes, most: api.Yes, most + 1: api.Unknown} {
			if n > 4096 {
				continue
			}
			for _, size := range []api.Size{just(n), sized(n, -1), sized(n, 4096)} {
				s := tells(t, parsed(t, c+"*"), nil, size, plenty, want)
				if want == api.Yes && s != strings.Repeat(c, n) {
					t.Errorf("%s %d: %s", c, n, brief(s))
				}
				tells(t, parsed(t, c+"*"), parsed(t, "b*", ".*a.*b"), size, plenty, want)
				tells(t, parsed(t, c+"*"), parsed(t, c+"+"), size, plenty, api.No)
				tells(t, parsed(t, c+"{0,20}"), nil, size, plenty, api.No)
			}
		}
	}
	tells(t, parsed(t, "𝄞{4}(é*)"), nil, just(2044), plenty, api.Yes) // 16 + 4,080
	tells(t, parsed(t, "𝄞{4}(é*)"), nil, just(2045), plenty, api.Unknown)
	tells(t, parsed(t, "𝄞{4}(é*)b?"), nil, just(2045), plenty, api.Unknown)
	tells(t, parsed(t, "𝄞{4}(é*)b{0,9}"), nil, just(2047), plenty, api.Yes) // 16 + 2,040 times 2, at most, and 9
	tells(t, parsed(t, "𝄞{4}(é*)b{0,9}"), nil, just(2050), plenty, api.Unknown)
	tells(t, parsed(t, "[é€𝄞]*"), nil, just(2048), plenty, api.Yes)
	tells(t, parsed(t, "[é€𝄞]*"), parsed(t, "[é€]*"), just(2047), plenty, api.Yes) // 2,046 times 2, and 4
	tells(t, parsed(t, "[é€𝄞]*"), parsed(t, "[é€]*"), just(2048), plenty, api.Unknown)
	tells(t, parsed(t, "[é€𝄞]*"), parsed(t, "[é𝄞]*"), just(2047), plenty, api.Yes)
	tells(t, parsed(t, "[é€𝄞]*"), parsed(t, "[é€𝄞]*"), just(2048), plenty, api.No)
	tells(t, parsed(t, "([a-c]|é)*"), parsed(t, ".*[a-c].*"), just(2049), plenty, api.Unknown)
}

// Fewer code points may have more bytes: what is found is told all the same.
func TestFewerBytesByMoreCodePoints(t *testing.T) {
	decides(t, parsed(t, "𝄞{20}(𝄞*)|a*"), nil, sized(1024, -1), api.Yes)
	decides(t, parsed(t, "(𝄞{20})*|(a{13})*"), nil, sized(1025, -1), api.Yes)
	decides(t, parsed(t, "((𝄞|aa)(𝄞|aa))*"), parsed(t, "a*", ".*aa.*"), sized(1000, 1024), api.Yes)
	tells(t, parsed(t, "((𝄞|aa)(𝄞|aa))*"), parsed(t, "a*", ".*aa.*"), sized(1025, -1), plenty, api.Unknown)
	decides(t, parsed(t, "((𝄞|aa)(𝄞|aa))*"), parsed(t, "a*"), sized(1025, -1), api.Yes)
	decides(t, parsed(t, "(𝄞𝄞|aaa)*b"), nil, sized(1100, 1200), api.Yes)
	decides(t, parsed(t, "(𝄞𝄞|aaaaaaaaaaaaaaaaaa)*b"), nil, sized(2000, 2001), api.Yes)
}

// Of two ways to where all texts go on alike, the one of fewer bytes is taken, be it of as many code points or more.
func TestFewestBytesAhead(t *testing.T) {
	for _, ahead := range []string{"(a𝄞|ba)", "(ba|a𝄞)", "(𝄞a|ab)", "(aé𝄞|bca|dé€){0}(éb|a𝄞|ba)"} {
		tells(t, parsed(t, ahead+"é*"), nil, just(2049), plenty, api.Yes) // 2 and 2,047 times 2
		tells(t, parsed(t, ahead+"é*"), nil, just(2050), plenty, api.Unknown)
	}
	for _, ahead := range []string{"(𝄞𝄞|aaa)", "(aaa|𝄞𝄞)", "(𝄞|𝄞€|é|éé|aaa)"} {
		s := tells(t, parsed(t, ahead+"(é{20}é{11})+", ahead+"((é{11}){6})+"), nil, free, plenty, api.Yes)
		if ahead != "(𝄞|𝄞€|é|éé|aaa)" && s != "aaa"+strings.Repeat("é", 31*66) {
			t.Errorf("%s: %s", ahead, brief(s))
		}
		tells(t, parsed(t, ahead+"b(é{20}é{11})+", ahead+"b((é{11}){6})+"), nil, free, plenty, api.Yes)
		tells(t, parsed(t, ahead+"b{3}(é{20}é{11})+", ahead+"b{3}((é{11}){6})+"), nil, free, plenty, api.Unknown)
	}
}

// The shortest text of all: 19 times 17 times 12 code points are few enough, 19 times 17 times 13 too many.
func TestGreatRounds(t *testing.T) {
	tells(t, parsed(t, "(a{19})*", "(a{17})*", "(a{12})*"), nil, sized(1, -1), plenty, api.Yes)
	tells(t, parsed(t, "(a{19})*", "(a{17})*", "(a{13})*"), nil, sized(1, -1), plenty, api.Unknown)
	tells(t, parsed(t, "(a{19})*", "(a{17})*", "(a{13})*"), nil, sized(1, 4096), plenty, api.No)
	tells(t, parsed(t, "(a{19})*", "(a{17})*", "(a{13})*", "b*"), nil, sized(1, -1), plenty, api.No)
	tells(t, parsed(t, "(a{19})*", "(a{17})*", "(é|a{13})*"), parsed(t, ".*é.*"), sized(1, -1), plenty, api.Unknown)
}
