package text_test

import (
	"math"
	"slices"
	"strings"
	"testing"

	"entrepot/api"
)

// Promise 12.1: May and Has.

// bads is texts that are no pattern, too much of one, and not valid.
var bads = []string{
	"(", ")", "a)", "[", "[]", "[b-a]", "*", "a**", "a{", "a{}", "a{,2}", "{2}", "^", "$", "^a$", "]", "}", `\`, `\w`, `[\s]`, "a|*", "(?:a)",
	"a{21}", "a{0,21}", "a{3,2}", "a{999,}", strings.Repeat("a", 200), "(a{20}){20}", strings.Repeat("(", 14) + "a" + strings.Repeat(")?", 14), strings.Repeat("()", 201), strings.Repeat("[", 10_000), strings.Repeat("a", 401),
	"\xFF", "a\x80", "[\xC3]", "\xED\xA0\x80", "é\xF4\x90\x80\x80", "a|\xC0\x80",
}

// odds is texts at the limits that are patterns all the same.
var odds = []string{
	"", "()", "|", `\.`, "[^\x00-\U0010FFFF]", "a{20}", "a{0}", "a{20,}", strings.Repeat("a", 199), "((a{20}){9})", strings.Repeat("(", 13) + "a" + strings.Repeat(")?", 13), strings.Repeat("()", 199), strings.Repeat(`\.`, 199), strings.Repeat("é", 199), "\n", "é", "𝄞+", "\x00", `\d\n\t`,
}

func TestMayOfCounts(t *testing.T) {
	wanted := map[int]bool{}
	for _, n := range []int{0, 1, 2, 19, 20, 1000, 4095, 4096} {
		wanted[n] = true
	}
	for _, n := range []int{-1, -2, -3, -4096, math.MinInt, math.MinInt + 1, math.MinInt32, 4097, 4098, 5000, 65536, 1 << 31, 1 << 32, 1<<32 + 1, math.MaxInt - 1, math.MaxInt} {
		wanted[n] = false
	}
	for least, ok := range wanted {
		may(t, sized(least, -1), ok)
		may(t, set(least, -1, "a*", "b*"), ok)
		for most, okMost := range wanted {
			may(t, sized(least, most), ok && (okMost || most == -1)) // Max below Min may be
			may(t, set(least, most, "a", "("), false)
		}
	}
	may(t, api.Texts{}, true)
	may(t, api.Texts{Res: []string{}, Size: api.Size{Max: -1}}, true)
}

func TestMayOfPatterns(t *testing.T) {
	for _, s := range odds {
		may(t, of(s), true)
		may(t, set(4096, 0, s, "a", s), true)
		may(t, of(slices.Concat(copies(7, "a"), []string{s})...), true)
	}
	for _, s := range bads {
		for n := range 8 {
			for at := range n + 1 {
				res := slices.Insert(copies(n, "a*"), at, s)
				may(t, of(res...), false)
			}
		}
		may(t, set(3, 2, s), false)
		may(t, of(s, s), false)
		may(t, of(bads[0], s), false)
	}
}

func TestMayOfManyPatterns(t *testing.T) {
	for n := range 9 {
		may(t, of(copies(n, "a")...), true)
		may(t, of(unlike(n)...), true)
		may(t, set(5, 3, unlike(n)...), true)
	}
	for _, n := range []int{9, 10, 16, 100, 10_000} {
		may(t, of(copies(n, "a")...), false)
		may(t, of(copies(n, "")...), false)
		may(t, of(unlike(min(n, 100))...), false)
		may(t, set(-1, -2, copies(n, "(")...), false)
	}
}

func TestHasOfLiterals(t *testing.T) {
	for _, c := range []struct {
		set    api.Texts
		in     []string
		notsIn []string
	}{
		{of(), []string{"", "a", "\x00", "é𝄞\n", strings.Repeat("a", 5000), strings.Repeat("𝄞", 9000)}, []string{"\xFF", "a\x80", "\xED\xA0\x80", "é\xC3", strings.Repeat("a", 5000) + "\xFF"}},
		{of("a*"), []string{"", "a", "aaaa", strings.Repeat("a", 5000)}, []string{"b", "ab", "ba", "\n", "a\n", "A", "é", "a\xFF"}},
		{of("a*", ".{2}"), []string{"aa"}, []string{"", "a", "aaa", "ab", "a\xFF"}},
		{of(".{2}", "a*", "(aa)*", "aa|bb"), []string{"aa"}, []string{"bb", "", "aaaa"}},
		{of("a.*", ".*b", "[^c]*", ".{3,5}"), []string{"aab", "axxxb", "a\nb", "aéb"}, []string{"ab", "acb", "axxxxb", "bab", "aba", "a\xFFb"}},
		{of("", ""), []string{""}, []string{"a", "\xFF"}},
		{of("[^\x00-\U0010FFFF]"), nil, []string{"", "a", "\uFFFD", "\xFF"}},
		{of(".*"), []string{"", "a\nb", "\u2028", "\U0010FFFF"}, []string{"\xF4\x90\x80\x80", "\x80"}},
		{sized(0, 0), []string{""}, []string{"a", "\x00", "é", "\xFF"}},
		{sized(2, 3), []string{"ab", "abc", "éé", "𝄞𝄞𝄞", "e\u0301"}, []string{"", "a", "abcd", "é", "𝄞", "ééé\u0301", "a\xFF", "\xFF\xFF", "ab\xFF"}},
		{sized(2, -1), []string{"ab", "𝄞𝄞", strings.Repeat("é", 6000)}, []string{"", "a", "𝄞", "\xFF\xFF\xFF"}},
		{sized(0, 2), []string{"", "a", "éé", "𝄞𝄞"}, []string{"abc", "\xFF", "\xC3"}},
		{sized(4096, 4096), []string{strings.Repeat("a", 4096), strings.Repeat("𝄞", 4096)}, []string{"", strings.Repeat("a", 4095), strings.Repeat("a", 4097), strings.Repeat("é", 2048)}},
		{sized(4096, -1), []string{strings.Repeat("a", 4096), strings.Repeat("é", 4097)}, []string{strings.Repeat("𝄞", 4095)}},
		{sized(0, 4096), []string{strings.Repeat("𝄞", 4096)}, []string{strings.Repeat("a", 4097)}},
		{sized(3, 2), nil, []string{"", "a", "aa", "aaa", "aaaa"}},
		{sized(1, 0), nil, []string{"", "a"}},
		{sized(4096, 0), nil, []string{"", strings.Repeat("a", 4096)}},
		{set(2, 3, "a*"), []string{"aa", "aaa"}, []string{"", "a", "aaaa", "ab"}},
		{set(2, 3, "é*", "é.*"), []string{"éé", "ééé"}, []string{"é", "éééé", "ée"}},
		{set(1, 1, ".*𝄞.*"), []string{"𝄞"}, []string{"", "a", "𝄞a"}},
		{set(0, 2, "a{3}"), nil, []string{"", "aa", "aaa"}},
		{set(3, 2, "a*"), nil, []string{"aa", "aaa", ""}},
		{of(`\d{4}-\d\d`, `[12].*`), []string{"1999-12", "2026-11"}, []string{"3000-01", "199-12", "1999-1", "1999\n12"}},
	} {
		may(t, c.set, true)
		for _, s := range c.in {
			has(t, c.set, s, true)
		}
		for _, s := range c.notsIn {
			has(t, c.set, s, false)
		}
	}
}

// Each of Res is asked, wherever it stands, and however often.
func TestHasOfEachPattern(t *testing.T) {
	for n := range 8 {
		for at := range n + 1 {
			x := of(slices.Insert(unlike(n), at, "a[bc]")...)
			has(t, x, "ab", true)
			has(t, x, "ac", true)
			has(t, x, "ad", false)
			has(t, x, "", false)
			has(t, x, "abc", false)
		}
	}
}

// Sets that chance puts together, held against the library.
func TestHasThatChancePutsTogether(t *testing.T) {
	random := seeded(1)
	counts := map[bool]int{}
	for range 3000 {
		x := scattered(random, 4, 8, patterns)
		for _, s := range append(shortTexts, "a\xFF", "\xFF", "ab\xC3") {
			want := holds(x, s)
			has(t, x, s, want)
			counts[want]++
		}
	}
	if counts[true] < 5000 || counts[false] < 5000 {
		t.Errorf("%v", counts)
	}
}
