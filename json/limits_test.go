package json_test

import (
	"strings"
	"testing"

	"entrepot/api"
)

// Promise 7.1: what is too long, too deep, too much, and numbers that can't be had.

// padded is s with blanks up to n bytes.
func padded(s string, n int) string { return s + strings.Repeat(" ", n-len(s)) }

func TestMostBytes(t *testing.T) {
	reads(t, padded("1", 65536), one)
	reads(t, strings.Repeat("\n", 65535)+"1", one)
	reads(t, padded("[1", 65535)+"]", list(one))
	for _, s := range []string{"1", "[]", `{"a":1}`, `"a"`, "null", "01", "", "[", "0.1", `{"a":1,"a":1}`, "\"\xFF\"", within(17, ""), strings.Repeat("1", 401), strings.Repeat("[", 65536)} {
		fails(t, padded(s, 65537), api.ErrLimit)
		fails(t, padded(s, 65538), api.ErrLimit)
		fails(t, padded(s, 1<<20), api.ErrLimit)
	}
	for _, s := range []string{"01", "[", "1 2", "{"} {
		fails(t, padded(s, 65536), api.ErrSyntax)
	}
	fails(t, string(make([]byte, 65536)), api.ErrSyntax)
	fails(t, string(make([]byte, 65537)), api.ErrLimit)
}

func TestLevels(t *testing.T) {
	told := func(depth int) int {
		if depth > 16 {
			return api.ErrDepth
		}
		return api.OK
	}
	for n := range 24 {
		for _, s := range []string{"null", "1", `"a"`, "[]", "{}"} {
			ends(t, within(n, s), told(n+1))
			ends(t, withinMaps(n, s), told(n+1))
			ends(t, within(n/2, withinMaps(n-n/2, s)), told(n+1))
			ends(t, withinMaps(n/2, within(n-n/2, s)), told(n+1))
			ends(t, "["+within(n, s)+",1]", told(n+2))
			ends(t, "[1,[],"+within(n, s)+",{}]", told(n+2))
			ends(t, `{"b":`+within(n, s)+`,"a":1,"c":[[]]}`, told(n+2))
		}
		ends(t, within(n+1, ""), told(n+1))
	}
	reads(t, within(16, ""), nested(15, list()))
	reads(t, within(15, "7"), nested(15, plus(7)))
	for _, n := range []int{17, 100, 1000, 10_000, 32_767} {
		fails(t, within(n, ""), api.ErrDepth)
		fails(t, strings.Repeat("[", n+1)+strings.Repeat("]", n), api.ErrSyntax)
		fails(t, strings.Repeat("[", n)+strings.Repeat("]", n-1)+"}", api.ErrSyntax)
	}
	fails(t, within(32_768, ""), api.ErrDepth)
	fails(t, withinMaps(10_000, "1"), api.ErrDepth)
	fails(t, strings.Repeat("[", 65_536), api.ErrSyntax)
	fails(t, strings.Repeat(`{"m":`, 13_107), api.ErrSyntax)
	fails(t, strings.Repeat(`[{"":`, 13_107), api.ErrSyntax)
	fails(t, within(4, many(12, within(14, ""))), api.ErrDepth)
}

func TestMostItems(t *testing.T) {
	for n, want := range map[int]int{0: api.OK, 1: api.OK, 999: api.OK, 1000: api.OK, 1001: api.ErrLimit, 1002: api.ErrLimit, 5000: api.ErrLimit} {
		for _, e := range []string{"1", "null", `""`, "[]"} {
			for _, s := range append(places("["+many(n, e)+"]"), places(wide(n, e))...) {
				ends(t, s, want)
			}
		}
	}
	reads(t, "["+many(1000, "1")+"]", list(copies(1000, one)...))
	reads(t, wide(1000, "1"), api.Value{Kind: api.KMap, Keys: names(1000), List: copies(1000, one)})
	fails(t, "["+many(32_767, "1")+"]", api.ErrLimit)
	fails(t, "["+many(32_767, "1")+",]", api.ErrSyntax)
}

func TestMostNodes(t *testing.T) {
	thousand := "[" + many(999, "1") + "]"
	nine := many(9, thousand) // 9,000 nodes
	for s, want := range map[string]int{
		"[" + nine + ",[" + many(998, "1") + "]]":                                              api.OK, // 10,000
		"[" + nine + ",[" + many(999, "1") + "]]":                                              api.ErrLimit,
		"[" + nine + "," + many(991, "1") + "]":                                                api.OK, // 9,992
		"[" + many(5, thousand) + "," + many(4, wide(999, "1")) + ",[" + many(998, "1") + "]]": api.OK,
		"[" + many(5, thousand) + "," + many(4, wide(999, "1")) + ",[" + many(999, "1") + "]]": api.ErrLimit,
		"[" + many(999, "["+many(9, "1")+"]") + ",[" + many(8, "1") + "]]":                     api.OK, // 10,000
		"[" + many(1000, "["+many(9, "1")+"]") + "]":                                           api.ErrLimit,
		wide(909, `{"a":[1,2,3,4,5,6,7,8,9]}`):                                                 api.OK, // 10,000
		wide(910, `{"a":[1,2,3,4,5,6,7,8,9]}`):                                                 api.ErrLimit,
		"[[" + nine + ",[" + many(997, "1") + "]]]":                                            api.OK,
		"[[" + nine + ",[" + many(998, "1") + "]]]":                                            api.ErrLimit,
	} {
		ends(t, s, want)
	}
}

func TestLongTexts(t *testing.T) {
	for s, want := range map[string]int{
		strings.Repeat("a", 4095): api.OK, strings.Repeat("a", 4096): api.OK, strings.Repeat("a", 4097): api.ErrLimit, strings.Repeat("a", 60_000): api.ErrLimit,
		strings.Repeat("é", 2048): api.OK, strings.Repeat("é", 2048) + "a": api.ErrLimit, strings.Repeat("𝄞", 1024): api.OK, strings.Repeat("𝄞", 1025): api.ErrLimit,
		strings.Repeat(`\n`, 4096): api.OK, strings.Repeat(`\n`, 4097): api.ErrLimit, strings.Repeat(`\u0061`, 4096): api.OK, strings.Repeat(`\u0061`, 4097): api.ErrLimit, // by what they mean
		strings.Repeat(`\u0000`, 4096): api.OK, strings.Repeat(`\u00e9`, 2048): api.OK, strings.Repeat(`\u00e9`, 2049): api.ErrLimit, strings.Repeat(`\u20ac`, 1365) + "a": api.OK, strings.Repeat(`\u20ac`, 1365) + "aa": api.ErrLimit,
		strings.Repeat(`\ud834\udd1e`, 1024): api.OK, strings.Repeat(`\ud834\udd1e`, 1024) + "a": api.ErrLimit,
	} {
		for _, p := range places(quoted(s)) {
			ends(t, p, want)
		}
		for _, p := range places("{" + quoted(s) + ":1}") {
			ends(t, p, want)
		}
		ends(t, `{"`+s+`":1,"":2,"z":3}`, want)
	}
	long := strings.Repeat("ab", 2048)
	reads(t, quoted(long), text(long))
	reads(t, "{"+quoted(long)+":"+quoted(long)+"}", member(long, text(long)))
	fails(t, `{"`+long+`":1,"`+long+`":2}`, api.ErrSyntax)
	fails(t, `{"`+long+`c":1,"`+long+`c":2}`, api.ErrSyntax)
	fails(t, `{"`+long+`c":1,"`+long+`d":2}`, api.ErrLimit)
}

func TestLongNumbers(t *testing.T) {
	noughts := func(n int) string { return strings.Repeat("0", n) }
	for s, want := range map[string]api.Value{
		"0." + noughts(398): plus(), "-0." + noughts(397): plus(), "1." + noughts(398): one, "0.5" + noughts(397): half, "1" + noughts(300) + "e-" + noughts(94) + "300": one, "1e" + noughts(397) + "2": plus(100), "0e" + strings.Repeat("9", 398): plus(), "1e-" + noughts(397): one,
	} {
		if len(s) != 400 {
			t.Fatalf("%s has %d bytes", s, len(s))
		}
		reads(t, s, want)
		reads(t, within(3, s), nested(3, want))
		reads(t, " "+s+" ", want) // blanks are none of its bytes
		for _, p := range places(s + "0") {
			fails(t, p, api.ErrLimit)
		}
	}
	for _, n := range []int{79, 399, 400} {
		for _, p := range places(strings.Repeat("7", n)) {
			fails(t, p, api.ErrUnrep)
		}
	}
	for _, n := range []int{401, 402, 1000, 60_000} {
		for _, s := range []string{strings.Repeat("7", n), "-" + strings.Repeat("7", n), "0." + noughts(n), "1e" + noughts(n), "0e-" + strings.Repeat("9", n), "1.5E+" + noughts(n) + "1", noughts(1) + "." + noughts(n-1) + "5"} {
			for _, p := range places(s) {
				fails(t, p, api.ErrLimit)
			}
		}
	}
}

func TestNumbersThatCantBeHad(t *testing.T) {
	for _, s := range []string{
		"0.1", "-0.1", "1e-1", "0.3", "3.14", "1.1", "5e-2", "100.01", beyondText, "-" + beyondText, beyondText + ".0", "1e78", "-1e78", "1e308", "1e400", "1e999999999999", "5e-324", "1e-400", "1e-999999999999", "1E+78",
		leastText + "e-1", "0.00000000000000000002710505431213761085018632002174854278564453125", "4503599627370496.5", topText + ".5",
	} {
		for _, p := range places(s) {
			fails(t, p, api.ErrUnrep)
		}
		fails(t, `[{"a":[`+s+`]},`+s+`]`, api.ErrUnrep)
	}
}

// What is wrong, the first to be told first, in whatever order it stands.
func TestFirstErrorIsTold(t *testing.T) {
	long := strings.Repeat("7", 401)
	kinds := []struct {
		err    int
		pieces []string
	}{
		{api.ErrSyntax, []string{"01", `"\x"`, `{"a":1,"a":1}`, `"\ud834"`, "\"\xFF\"", "\"\x01\"", "nul", within(20, "01"), "0" + long, long + "."}},
		{api.ErrDepth, []string{within(16, ""), withinMaps(15, "1"), within(20, "0.1"), within(30, long), within(17, `{"a":0.1}`), "[" + many(1001, "1") + "," + within(15, "") + "]"}},
		{api.ErrLimit, []string{"[" + many(1001, "1") + "]", wide(1001, "1"), quoted(strings.Repeat("a", 4097)), "{" + quoted(strings.Repeat("a", 4097)) + ":0.1}", long, "-0." + long, "[" + many(11, "["+many(950, "1")+"]") + "]", "[0.1," + many(1000, "1") + "]"}},
		{api.ErrUnrep, []string{"0.1", "1e78", "[0.1]", `{"a":1e-1}`, within(10, beyondText)}},
		{api.OK, []string{"1", "[]", `"a"`, "1e2", `{"a":{"a":0.5}}`}},
	}
	for i, first := range kinds {
		for _, later := range kinds[i:] {
			for _, a := range first.pieces {
				for _, b := range later.pieces {
					for _, s := range []string{"[" + a + "," + b + "]", "[" + b + "," + a + "]", `{"a":` + a + `,"b":` + b + "}", `{"b":` + b + `,"a":` + a + "}", `[{"x":` + b + `},1,[` + a + `]]`} {
						ends(t, s, first.err)
					}
				}
			}
		}
		for _, a := range first.pieces {
			fails(t, padded(a, 65537), api.ErrLimit)
			fails(t, "["+a+",", api.ErrSyntax)
			fails(t, a+" x", api.ErrSyntax)
		}
	}
	fails(t, "["+long+",0.1]", api.ErrLimit)
	fails(t, "[0.1,"+long+",0.1]", api.ErrLimit)
	fails(t, "[0.1,"+long+",01]", api.ErrSyntax)
	fails(t, strings.Repeat("[", 17)+strings.Repeat("]", 16), api.ErrSyntax)
}
