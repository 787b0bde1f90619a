package incl_test

import (
	"slices"
	"strings"
	"testing"

	"entrepot/api"
	"entrepot/whole"
)

// kindOf is a type by a name that tables call it by, and those of the table that have all of its values.
type kindOf struct {
	name string
	t    api.Type
	in   string
}

// matrix asks each type of a table against each, itself too. What is not in another is told with a value.
func matrix(t *testing.T, table []kindOf) {
	t.Helper()
	var l []api.Type
	for _, x := range table {
		l = append(l, x.t)
	}
	for a, x := range table {
		in := strings.Fields(x.in)
		for b, y := range table {
			want := api.No
			if slices.Contains(in, y.name) || a == b || x.in == "all" {
				want = api.Yes
			}
			if slices.Contains(in, "?"+y.name) {
				want = api.Unknown
			}
			if got, v := told(t, l, a, b, enough); got != want {
				t.Errorf("%s in %s: %s, %s", x.name, y.name, named(got), brief(v))
			}
		}
		want := api.No
		if x.in == "all" {
			want = api.Yes
		}
		asks(t, l, a, noType, want)
	}
}

// Promise 15.1: null, bools, floats, against one another and against whole numbers.
func TestScalars(t *testing.T) {
	matrix(t, []kindOf{
		{"nothing", api.Type{}, "all"},
		{"null", api.Type{Null: true}, "mixed"},
		{"false", api.Type{False: true}, "bool"},
		{"true", api.Type{True: true}, "bool mixed"},
		{"bool", api.Type{False: true, True: true}, ""},
		{"ints", ofInts(".."), ""},
		{"one", ofInts("1"), "ints mixed"},
		{"plain", ofFloats(api.FPlain), "finite floats mixed"},
		{"fine", ofFloats(api.FFine), "finite floats"},
		{"finite", ofFloats(api.FPlain | api.FFine), "floats"},
		{"inf", ofFloats(api.FInf), "infs floats"},
		{"neg", ofFloats(api.FNeg), "infs floats"},
		{"infs", ofFloats(api.FInf | api.FNeg), "floats"},
		{"nan", ofFloats(api.FNaN), "floats"},
		{"floats", ofFloats(api.FAll), ""},
		{"mixed", api.Type{Null: true, True: true, Ints: spans("1"), Floats: api.FPlain}, ""},
		{"text", ofTexts(texts(0, -1)), ""},
		{"bytes", ofBytes(0, -1), ""},
		{"array", ofArrays(arr(0, 0, -1)), "arrays"},
		{"arrays", ofArrays(arr(1, 0, -1)), ""},
		{"map", ofMaps(maps(0, "")), "maps"},
		{"maps", ofMaps(maps(1, "")), ""},
	})
}

// Promise 15.1: Ints and Exact, by the numbers that a float has and those that it has not.
func TestWholeNumbers(t *testing.T) {
	matrix(t, wholeTable())
}

func wholeTable() []kindOf {
	return []kindOf{
		{"nothing", api.Type{}, "all"},
		{"backwards", ofInts("5..1"), "all"},
		{"roughAsExact", ofExact("2^53+1"), "all"},
		{"endsAsExact", ofExact("max -max"), "all"},
		{"ints", ofInts(".."), "halves ends"},
		{"halves", ofInts("0.. ..-1"), "ints ends"},
		{"ends", ofInts("-max..max"), "ints halves"},
		{"exact", ofExact(".."), "ints halves ends pieces"},
		{"pieces", ofExact("..7 5..2^200 2^200.."), "ints halves ends exact"},
		{"1..3", ofInts("1..3"), "1,2,3 1..5 not0 above ints halves ends exact pieces"},
		{"1,2,3", ofExact("1 2 3"), "1..3 1..5 not0 above ints halves ends exact pieces"},
		{"1..5", ofInts("1..2 2..4 5"), "not0 above ints halves ends exact pieces"},
		{"not0", ofInts("1.. ..-1"), "ints halves ends"},
		{"above", ofInts("1.."), "not0 ints halves ends"},
		{"big", ofInts("2^53..2^53+4"), "both above not0 ints halves ends"},
		{"both", api.Type{Ints: spans("2^53+1 2^53+3"), Exact: spans("2^53..2^53+4")}, "big above not0 ints halves ends"},
		{"bigExact", ofExact("2^53..2^53+4"), "big both above not0 ints halves ends exact pieces"},
		{"bigRough", ofInts("2^53+1 2^53+3"), "big both above not0 ints halves ends"},
		{"top", ofInts("max"), "above not0 ints halves ends"},
		{"bottom", ofInts("-max"), "not0 ints halves ends"},
		{"exactEnds", ofExact("-2^255 2^255"), "ints halves ends exact pieces not0"},
		{"floats", ofFloats(api.FAll), ""},
	}
}

// Promise 15.1: the number that is shown is nearest to 0 of those that are told apart.
func TestNumbersThatAreShown(t *testing.T) {
	for _, x := range []struct{ a, b, want api.Type }{
		{ofInts("1..9"), ofInts("1..5"), ofInts("6..9")},
		{ofInts(".."), ofExact(".."), ofInts("2^53+1")},
		{ofInts(".."), ofInts("..2^64 2^64+2.."), ofInts("2^64+1")},
		{ofExact(".."), ofInts("-2^53-4..2^53+4"), ofExact("2^53+5.. ..-2^53-5")},
		{ofInts(".."), ofInts("-max+1.."), ofInts("-max")},
		{ofInts(".."), ofInts("-3..3"), ofInts("4")},
	} {
		l := these(x.a, x.b, x.want)
		if v := asks(t, l, 0, 1, api.No); !has(l, 2, v) {
			t.Errorf("%s: %s", show(l), brief(v))
		}
	}
}

// Promise 15.1: 1,000 spans on each side, all of which are needed.
func TestManySpans(t *testing.T) {
	even, odd, most := api.Type{}, api.Type{}, api.Type{}
	for k := range int64(1000) {
		even.Ints = append(even.Ints, between(4*k, 4*k+1))
		odd.Exact = append(odd.Exact, between(4*k+2, 4*k+3))
		most.Ints = append(most.Ints, between(4*k, 4*k+1))
	}
	all := ofInts("0..3999")
	most.Exact = odd.Exact[:999]
	both := api.Type{Ints: even.Ints, Exact: odd.Exact}
	l := these(even, odd, all, both, most)
	asks(t, l, 2, 3, api.Yes)
	asks(t, l, 3, 2, api.Yes)
	asks(t, l, 0, 3, api.Yes)
	asks(t, l, 0, 1, api.No)
	asks(t, l, 4, 3, api.Yes)
	for _, a := range []int{2, 3} {
		if v := asks(t, l, a, 4, api.No); v.Int != num("3998") {
			t.Error(brief(v))
		}
	}
}

func between(lo, hi int64) api.Span {
	return api.Span{HasLo: true, Lo: whole.Of(lo), HasHi: true, Hi: whole.Of(hi)}
}

// Promise 15.1: texts by Sizes alone, by Res, and by both.
func TestTexts(t *testing.T) {
	matrix(t, []kindOf{
		{"nothing", api.Type{}, "all"},
		{"backwards", ofTexts(texts(3, 2)), "all"},
		{"apart", ofTexts(texts(0, -1, "a*", "b+")), "all"},
		{"tooShort", ofTexts(texts(3, -1, "ab?")), "all"},
		{"any", ofTexts(texts(0, -1)), "anyToo dots ?upTo4096"},
		{"anyToo", ofTexts(texts(2, -1), texts(0, 2, ".*")), "any dots ?upTo4096"},
		{"dots", ofTexts(texts(0, -1, ".*")), "any anyToo ?upTo4096"},
		{"upTo4096", ofTexts(texts(0, 4096)), "any anyToo dots"},
		{"short", ofTexts(texts(0, 3)), "any anyToo dots upTo4096 byCount downwards"},
		{"byCount", ofTexts(texts(0, 0), texts(1, 1), texts(2, 3)), "short downwards any anyToo dots upTo4096"},
		{"downwards", ofTexts(texts(2, 3), texts(1, 1), texts(0, 0)), "short byCount any anyToo dots upTo4096"},
		{"three", ofTexts(texts(3, 3)), "short byCount downwards any anyToo dots upTo4096"},
		{"a*", ofTexts(texts(0, -1, "a*")), "any anyToo dots ab a*andMore ?upTo4096"},
		{"ab", ofTexts(texts(0, -1, "[ab]*")), "any anyToo dots ?upTo4096"},
		{"a*andMore", ofTexts(texts(0, -1, "a*"), texts(0, -1, "b")), "any anyToo dots ab ?upTo4096"},
		{"aa", ofTexts(texts(0, -1, "aa")), "any anyToo dots upTo4096 short byCount downwards a* ab a*andMore a2 even"},
		{"a2", ofTexts(texts(2, 2, "a*")), "any anyToo dots upTo4096 short byCount downwards a* ab a*andMore aa even"},
		{"even", ofTexts(texts(0, -1, "(aa)*")), "any anyToo dots a* ab a*andMore ?upTo4096"},
		{"b", ofTexts(texts(0, -1, "[ab]*", "[bc]", ".")), "any anyToo dots upTo4096 short byCount downwards ab a*andMore"},
		{"bytes", ofBytes(0, -1), ""},
	})
}

// Promise 15.1: many Texts, on either side.
func TestManyTexts(t *testing.T) {
	letters := func(from, to rune) api.Type {
		var out api.Type
		for c := from; c <= to; c++ {
			out.Texts = append(out.Texts, texts(0, -1, string(c)))
		}
		return out
	}
	l := these(letters('a', 't'), letters('a', 's'), letters('b', 't'), ofTexts(texts(0, -1, "[a-t]")), ofTexts(texts(0, -1, "[a-u]")), ofTexts(texts(0, 1, ".*")))
	for _, x := range []struct{ a, b, want int }{
		{0, 0, api.Yes}, {0, 3, api.Yes}, {3, 0, api.Yes}, {0, 4, api.Yes}, {4, 0, api.No}, {1, 0, api.Yes},
		{2, 0, api.Yes}, {0, 1, api.No}, {0, 2, api.No}, {3, 2, api.No}, {0, 5, api.Yes}, {5, 0, api.No}, {2, 1, api.No},
	} {
		asks(t, l, x.a, x.b, x.want)
	}
}

// Promise 15.1: Texts of unlike Sizes, and of so many bytes that not all go into one pattern.
func TestTextsThatAreNotPutTogether(t *testing.T) {
	for _, x := range [][2]string{{"a*", "b*"}, {"b*", "a*"}} {
		l := these(ofTexts(texts(0, -1, "a*|b*")), ofTexts(texts(0, 2, x[0]), texts(0, -1, x[1])), ofTexts(texts(3, -1, x[0]), texts(0, 2, x[0]), texts(0, -1, x[1])))
		asks(t, l, 0, 1, api.No)
		asks(t, l, 1, 0, api.Yes)
		asks(t, l, 0, 2, api.Yes)
	}
	var sizes api.Type
	for n := range 19 {
		sizes.Texts = append(sizes.Texts, texts(2*n, 2*n))
	}
	l := these(ofTexts(texts(0, 36, "(aa)*")), sizes, ofTexts(texts(0, -1, "(aa)*")), api.Type{Texts: append(slices.Clone(sizes.Texts), texts(37, -1))}, ofTexts(texts(0, -1, "a*")), ofTexts(texts(30, 34)), ofTexts(texts(0, 36)))
	for _, x := range []struct{ a, b, want int }{{0, 1, api.Yes}, {2, 1, api.No}, {2, 3, api.Yes}, {4, 3, api.No}, {5, 1, api.No}, {1, 5, api.No}, {1, 6, api.Yes}, {6, 1, api.No}, {5, 6, api.Yes}, {6, 3, api.No}} {
		asks(t, l, x.a, x.b, x.want)
	}
	asks(t, these(ofTexts(texts(0, 3, "a{4,}")), ofTexts(texts(5, 5), texts(2, 2))), 0, 1, api.Yes)
	asks(t, these(ofTexts(texts(0, 3, "a{3,}")), ofTexts(texts(5, 5), texts(2, 2))), 0, 1, api.No)
	var long api.Type
	for c := 'a'; c <= 't'; c++ {
		long.Texts = append(long.Texts, texts(0, -1, strings.Repeat(string(c), 150)))
	}
	l = these(ofTexts(texts(150, 150, "a*|b*|c*|d*|e*")), long, api.Type{Texts: long.Texts[1:]}, api.Type{Texts: long.Texts[:4]}, api.Type{Texts: long.Texts[:5]})
	for _, x := range []struct{ a, b, want int }{{0, 1, api.Yes}, {0, 4, api.Yes}, {0, 2, api.No}, {0, 3, api.No}, {1, 1, api.Yes}, {2, 1, api.Yes}, {1, 2, api.No}, {3, 0, api.Yes}, {1, 0, api.No}} {
		asks(t, l, x.a, x.b, x.want)
	}
}

// More sets than can be asked for at once: what is not sure is not told.
func TestTooManyTexts(t *testing.T) {
	l := these(ofTexts(texts(0, -1, "[a-k]")), api.Type{}, ofTexts(texts(0, -1, "[a-j]")))
	for c := 'a'; c <= 'j'; c++ {
		l[1].Texts = append(l[1].Texts, texts(0, -1, string(c)+"|x", string(c)+"|y"))
	}
	if got, v := told(t, l, 0, 1, enough); got == api.Yes {
		t.Error(named(got), brief(v))
	}
	if got, v := told(t, l, 2, 1, enough); got == api.No {
		t.Error(named(got), brief(v))
	}
	asks(t, l, 1, 2, api.Yes)
	asks(t, l, 1, 0, api.Yes)
}

// Promise 15.1: bytes by their sizes.
func TestBytes(t *testing.T) {
	both := ofBytes(0, 3)
	both.Bytes = append(both.Bytes, size(2, 5), size(4096, 7))
	matrix(t, []kindOf{
		{"nothing", api.Type{}, "all"},
		{"backwards", ofBytes(3, 2), "all"},
		{"any", ofBytes(0, -1), "?upTo4096"},
		{"upTo4096", ofBytes(0, 4096), "any"},
		{"most", ofBytes(4096, -1), "any from4 ?upTo4096 ?4096"},
		{"4096", ofBytes(4096, 4096), "any upTo4096 from4 most"},
		{"from4", ofBytes(4, -1), "any ?upTo4096"},
		{"none", ofBytes(0, 0), "any upTo4096 upTo5 both"},
		{"upTo5", ofBytes(0, 5), "any upTo4096 both"},
		{"both", both, "any upTo4096 upTo5"},
		{"2", ofBytes(2, 2), "any upTo4096 upTo5 both"},
		{"texts", ofTexts(texts(0, -1)), ""},
	})
}
