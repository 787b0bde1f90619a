package text_test

import (
	"slices"
	"strconv"
	"strings"
	"testing"
	"unicode/utf8"

	"entrepot/api"
	"entrepot/text"
)

// Promise 12.2: what is found, and that there is none.

func TestFindsOfOneSet(t *testing.T) {
	for _, c := range []struct {
		set  api.Texts
		want int
		s    string
	}{
		{of(), api.Yes, ""}, {of("a"), api.Yes, "a"}, {of("é"), api.Yes, "é"}, {of(""), api.Yes, ""}, {of("a{3}"), api.Yes, "aaa"}, {of("a.*", ".*b"), api.Yes, "ab"}, {of("(aa)*", "(aaa)*", "a+"), api.Yes, "aaaaaa"}, {of("a", "a", "[ab]"), api.Yes, "a"}, {of("a", "b"), api.No, ""}, {of("a*", ".*b"), api.No, ""}, {of("[^\x00-\U0010FFFF]"), api.No, ""}, {of("a", ""), api.No, ""},
		{sized(0, 0), api.Yes, ""}, {set(1, 1, "a*"), api.Yes, "a"}, {set(3, -1, "a*"), api.Yes, "aaa"}, {set(3, 3, "(ab)*"), api.No, ""}, {set(3, 4, "(ab)*"), api.Yes, "abab"}, {set(5, -1, "a{0,4}"), api.No, ""}, {set(0, 2, "a{3}"), api.No, ""}, {set(2, 2, "é*"), api.Yes, "éé"}, {set(4, 4, "𝄞"), api.No, ""}, {set(20, 20, "a*"), api.Yes, strings.Repeat("a", 20)}, {set(4096, 4096, "a*"), api.Yes, strings.Repeat("a", 4096)}, {set(4096, -1, "a*"), api.Yes, strings.Repeat("a", 4096)},
		{sized(1, 0), api.No, ""}, {sized(3, 2), api.No, ""}, {sized(4096, 0), api.No, ""}, {set(3, 2, ".*"), api.No, ""}, {set(1, 0, ""), api.No, ""}, {set(3, 2, unlike(8)...), api.No, ""},
	} {
		if s := decides(t, sets(c.set), nil, c.want); s != c.s {
			t.Errorf("%s: %s", show(c.set), brief(s))
		}
		decides(t, sets(c.set, c.set, c.set), nil, c.want)
		decides(t, sets(c.set), sets(c.set), api.No)
		decides(t, sets(c.set, c.set), sets(sized(3, 2), c.set), api.No)
		if len(c.set.Res) > 0 {
			decides(t, nil, sets(c.set), api.Yes)
			decides(t, sets(of("[a-z]*")), sets(c.set), api.Yes)
		}
	}
	tells(t, sets(sized(0, 1000), sized(7, 4096)), nil, plenty, api.Yes)
}

func TestFindsOfNoSets(t *testing.T) {
	if s := decides(t, nil, nil, api.Yes); s != "" {
		t.Errorf("%s", brief(s))
	}
	if s, n := text.Find([]api.Texts{}, []api.Texts{}, 1); s != "" || n != api.Yes {
		t.Errorf("%s, %d", brief(s), n)
	}
	decides(t, nil, sets(of()), api.No)
	decides(t, nil, sets(of(".*")), api.No)
	decides(t, nil, sets(sized(3, 2)), api.Yes)
	decides(t, nil, sets(sized(0, 0)), api.Yes)
	decides(t, nil, sets(sized(0, 0), sized(1, -1)), api.No)
	decides(t, nil, sets(of("a*"), of(".*[^a].*")), api.No)
	decides(t, nil, sets(of("a*"), of(".*[^ab].*")), api.Yes)
}

func TestFindsOfSeveralSets(t *testing.T) {
	for _, c := range []struct {
		all, none []api.Texts
		want      int
	}{
		{sets(of("a.*"), of(".*b"), sized(3, 3)), nil, api.Yes}, {sets(of("a.*"), of(".*b"), sized(1, 1)), nil, api.No}, {sets(of("[ab]"), of("[bc]"), of("[ca]")), nil, api.No}, {sets(of("[ab]"), of("[bc]"), of("[cb]")), nil, api.Yes}, {sets(sized(0, 5), sized(5, 9)), nil, api.Yes}, {sets(sized(0, 4), sized(5, 9)), nil, api.No}, {sets(sized(0, 9), sized(2, -1), sized(0, 2)), nil, api.Yes}, {sets(of("a*"), sized(2, 1)), nil, api.No}, {sets(sized(5, 3), sized(0, 9)), nil, api.No}, {sets(sized(0, 3), sized(5, 9), sized(0, 9)), nil, api.No},
		{sets(set(0, 2, "[ab]*")), sets(sized(0, 1), of("a.")), api.Yes}, {sets(set(0, 2, "[ab]*")), sets(sized(0, 1), set(2, 2, "[ab]+")), api.No}, {sets(set(0, 2, "[ab]*")), sets(of("a.*"), of("b.*")), api.Yes}, {sets(set(0, 2, "[ab]*")), sets(of("a.*"), of("b.*"), of("")), api.No}, {sets(set(1, 2, "[ab]*")), sets(of("a.*"), of("b.*")), api.No},
		// a set of none is missed by one of its Res, whichever it is
		{sets(of("[ab]{2}")), sets(of("a.", ".a")), api.Yes}, {sets(of("[ab]{2}")), sets(of("a.", ".a"), of("b.*")), api.Yes}, {sets(of("[ab]{2}")), sets(of("a.", ".a"), of("b.*"), of(".b")), api.No}, {sets(of("[ab]{2}")), sets(of("a.", ".a"), of("a.", ".b"), of("b.", ".a"), of("b.", ".b")), api.No}, {sets(of("[ab]{2}")), sets(of("a.", ".a"), of("a.", ".b"), of("b.", ".a")), api.Yes}, {sets(of("[ab]{2}")), sets(of("a.", ".a"), of("a.", ".b"), of("b.", ".b")), api.Yes}, {sets(of("[ab]{2}")), sets(of("a.", ".b"), of("b.", ".a"), of("b.", ".b")), api.Yes}, {sets(of("[ab]{2}")), sets(of("a.", ".a"), of("b.", ".a"), of("b.", ".b")), api.Yes},
		{sets(of("[ab]{3}")), sets(of("a..", ".a."), of("..a", ".a."), of("a..", "..a"), of("b..", ".b."), of("..b", ".b."), of("b..", "..b")), api.No}, {sets(of("[ab]{3}")), sets(of("a..", ".a."), of("..a", ".a."), of("a..", "..a"), of("b..", ".b."), of("..b", ".b.")), api.Yes}, {sets(of("[abc]{3}")), sets(of("a..", ".a."), of("..a", ".a."), of("a..", "..a"), of("b..", ".b."), of("..b", ".b."), of("b..", "..b")), api.Yes},
		{sets(of("[abc]{8}")), sets(of(".*[ab].*", ".*[bc].*", ".*[ac].*")), api.Yes}, {sets(of("[abc]{8}", ".*a.*", ".*b.*")), sets(of(".*[ab].*", ".*[bc].*", ".*[ac].*")), api.No},
		// or by its Size, below or above
		{sets(of("a*")), sets(set(2, 4, "a*")), api.Yes}, {sets(set(2, -1, "a*")), sets(set(0, 4, "a*")), api.Yes}, {sets(set(2, 4, "a*")), sets(set(0, 3, "a*"), set(4, -1, "a*")), api.No}, {sets(set(2, 5, "a*")), sets(set(0, 3, "a*"), set(5, -1, "a*")), api.Yes}, {sets(set(2, 5, "[ab]*")), sets(set(0, 3, "[ab]*"), set(4, -1, "a*")), api.Yes}, {sets(set(2, 5, "[ab]*")), sets(set(0, 3, "[ab]*"), set(4, -1, "a*"), set(0, 4, ".*b.*"), set(5, 5, ".*b.*")), api.No}, {sets(set(2, 5, "[ab]*")), sets(set(0, 3, "[ab]*"), set(4, -1, "a*"), set(0, 4, ".*b.*"), set(5, 5, ".*b")), api.Yes},
		// what has no text is in nobody's way
		{sets(of("a*")), sets(sized(3, 2), set(1, 0, "a*"), set(4096, 4095, ".*")), api.Yes}, {sets(of("a")), sets(set(1, 0, "a")), api.Yes}, {sets(of("a")), sets(set(1, 0, "a"), set(1, 1, "a")), api.No}, {nil, sets(sized(1, 0), of("[^\x00-\U0010FFFF]")), api.Yes}, {sets(sized(3, 2)), sets(sized(3, 2)), api.No}, {sets(set(2, 2, "a*")), sets(set(3, 1, "a*")), api.Yes},
		// what has all texts leaves none
		{sets(of("a*")), sets(of()), api.No}, {sets(of("a*")), sets(of("b"), of(".*")), api.No}, {sets(sized(5, 9)), sets(sized(0, 20)), api.No}, {sets(sized(3, 2)), sets(of()), api.No},
		// Res that stand in all and in none
		{sets(of("a*")), sets(of("a*", ".{3}")), api.Yes}, {sets(set(3, 3, "a*")), sets(of("a*", ".{3}")), api.No}, {sets(of("a*", ".{3}")), sets(of(".{3}", "a*")), api.No}, {sets(of("a*", ".{3}")), sets(set(0, 2, ".{3}", "a*")), api.Yes}, {sets(of(".{3}"), of("a*")), sets(of("a*", "(a)*", ".{3}")), api.No}, {sets(of("[ab]*"), of(".{3}")), sets(of("[ab]*", "a*"), of(".{3}", "b*")), api.Yes}, {sets(of("a*")), sets(of("a*", "a*")), api.No}, {sets(of("a*")), sets(of("(a)*", "a*")), api.No},
		{sets(of(`\d{4}-\d\d`), of("19.*")), sets(of(".*-0."), of(".*-1[0-2]")), api.Yes}, {sets(of(`\d{4}-\d\d`), of("19.*")), sets(of(".*-0."), of(".*-1[0-2]"), of(".*-[^01]."), of(`.*-1[^0-2]`)), api.No},
	} {
		decides(t, c.all, c.none, c.want)
		slices.Reverse(c.all)
		slices.Reverse(c.none)
		decides(t, c.all, c.none, c.want)
		for _, l := range [][]api.Texts{c.all, c.none} {
			for i := range l {
				slices.Reverse(l[i].Res)
			}
		}
		decides(t, c.all, c.none, c.want)
	}
}

// Sizes of none that leave one length alone, or none.
func TestFindsOfOneLength(t *testing.T) {
	lengths := func(none []api.Texts, want int) {
		t.Helper()
		for _, all := range [][]api.Texts{nil, sets(of("[ab]*")), sets(of("é*"), sized(0, 2048)), sets(sized(0, 4096))} {
			s := decides(t, all, none, api.Yes)
			if n := utf8.RuneCountInString(s); n != want {
				t.Errorf("%s: %d, not %d", shown(all, none), n, want)
			}
		}
	}
	for n := range 20 {
		below, above := sets(sized(0, n-1)), sets(sized(n+1, -1))
		if n == 0 {
			below = nil
		}
		lengths(slices.Concat(below, above), n)
		lengths(slices.Concat(above, below), n)
		lengths(slices.Concat(above, below, sets(sized(n+1, n)), above), n)
		decides(t, nil, slices.Concat(below, above, sets(sized(n, n))), api.No)
		decides(t, nil, slices.Concat(sets(sized(n, n)), above, below), api.No)
		want := api.No
		if n%5 == 0 {
			want = api.Yes
		}
		decides(t, sets(of("(.....)*")), slices.Concat(below, above), want)
	}
	lengths(sets(sized(0, 4), sized(6, -1)), 5)
	lengths(sets(sized(6, 8), sized(0, 2), sized(9, -1), sized(3, 4)), 5)
	lengths(sets(sized(0, 0), sized(2, 2), sized(3, 3), sized(4, 4), sized(5, 5), sized(6, 6), sized(7, -1)), 1)
	lengths(sets(sized(8, -1), sized(0, 6)), 7)
	lengths(sets(sized(0, 999), sized(1001, -1)), 1000)
	lengths(sets(sized(0, 2047), sized(2049, 4096)), 2048)
	decides(t, nil, sets(sized(0, 4094), sized(4096, -1)), api.Yes)
	decides(t, nil, sets(sized(0, 4095)), api.Yes)
	decides(t, sets(of("[^a]*")), sets(sized(1, 4096)), api.Yes)
	decides(t, sets(sized(1, 4096)), sets(sized(1, 4096)), api.No)
	decides(t, sets(sized(1, 4096)), sets(sized(0, 4096)), api.No)
	decides(t, sets(sized(1, 4096)), sets(sized(0, 4095)), api.Yes)
	decides(t, sets(sized(1, 4096)), sets(sized(2, 4096)), api.Yes)
}

// Of more than 4,096 code points none can be told, but there are such texts.
func TestFindsBeyondWhatCanBeTold(t *testing.T) {
	long := sized(0, 4096)
	for _, all := range [][]api.Texts{nil, sets(of()), sets(of("a*")), sets(sized(4096, -1)), sets(of("a*|b"), of("[^c]*"))} {
		tells(t, all, sets(long), plenty, api.Unknown)
		tells(t, all, sets(of("b"), long), plenty, api.Unknown)
		tells(t, all, sets(sized(0, 2000), sized(2001, 4096)), plenty, api.Unknown)
		tells(t, all, sets(long, sized(4096, -1)), plenty, api.No)
		tells(t, all, sets(long, of(".*")), plenty, api.No)
		tells(t, all, sets(long, of("[^b]*b?.*")), plenty, api.No)
	}
	for _, all := range [][]api.Texts{sets(of("a{0,20}")), sets(of("[ab]*"), sized(0, 4096)), sets(of("a*b"), of(".*a")), sets(sized(3, 2))} {
		tells(t, all, sets(long), plenty, api.No)
	}
	for s, most := range map[string]int{"é": 2048, "€": 1365, "𝄞": 1024} {
		tells(t, sets(set(most, -1, s+"*")), nil, plenty, api.Yes)
		tells(t, sets(set(most+1, -1, s+"*")), nil, plenty, api.Unknown)
		tells(t, sets(set(most+1, -1, s+"*")), sets(of("a*"), of(".*b")), plenty, api.Unknown)
		tells(t, sets(of(s+"*")), sets(sized(0, most)), plenty, api.Unknown)
		tells(t, sets(of(s+"*")), sets(sized(0, most-1)), plenty, api.Yes)
		tells(t, sets(of("("+s+"|a)*")), sets(sized(0, most)), plenty, api.Yes)
		tells(t, sets(set(most+1, -1, s+"*")), sets(of("("+s+")*")), plenty, api.No) // not one, however long
		tells(t, sets(set(most+1, -1, s+"*")), sets(of("a*", ".*"), of("b", s+"+")), plenty, api.Unknown)
		tells(t, sets(set(most+1, -1, s+"*")), sets(of(".*.*"), of("b")), plenty, api.No)
		// of those that are too long, a set of none leaves some, below or above
		tells(t, sets(set(most+1, -1, s+"*")), sets(set(most+2, -1, s+"+")), plenty, api.Unknown)
		tells(t, sets(set(most+1, -1, s+"*")), sets(set(most+1, -1, s+"+")), plenty, api.No)
		tells(t, sets(set(most+1, most+9, s+"*")), sets(set(0, most+8, s+"+")), plenty, api.Unknown)
		tells(t, sets(set(most+1, most+9, s+"*")), sets(set(0, most+9, s+"+")), plenty, api.No)
		tells(t, sets(set(most+1, most+9, s+"*")), sets(set(0, most+4, s+"+"), set(most+6, -1, s+"+")), plenty, api.Unknown)
		tells(t, sets(set(most+1, most+9, s+"*")), sets(set(0, most+4, s+"+"), set(most+5, -1, s+"+")), plenty, api.No)
	}
}

// Eight of either may be asked, and nine not.
func TestFindsOfEightSets(t *testing.T) {
	a, b := of("[ab]*"), of(".*b")
	for n := range 9 {
		for m := range 9 {
			all, none := copies(n, a), copies(m, b)
			s := tells(t, append(copies(min(n, 7), a), set(3, 3)), none, plenty, api.Yes)
			if m > 0 && strings.HasSuffix(s, "b") {
				t.Errorf("%s", brief(s))
			}
			tells(t, all, none, plenty, api.Yes)
			for _, more := range []int{9, 10, 100} {
				tells(t, copies(more, a), none, plenty, wrong)
				tells(t, all, copies(more, b), plenty, wrong)
				tells(t, copies(more, sized(3, 2)), none, plenty, wrong)
				tells(t, all, copies(more, sized(3, 2)), plenty, wrong)
			}
		}
	}
	tells(t, copies(9, a), copies(9, b), plenty, wrong)
	tells(t, make([]api.Texts, 9), nil, 100, wrong)
	tells(t, make([]api.Texts, 8), make([]api.Texts, 8), 100, api.No)
	var ends, letters []api.Texts
	for c := 'a'; c < 'a'+8; c++ {
		ends = append(ends, of(".*"+string(c)))
		letters = append(letters, of(".*"+string(c)+".*"))
	}
	decides(t, sets(set(1, -1, "[a-i]*")), ends, api.Yes)
	decides(t, sets(set(1, -1, "[a-h]*")), ends, api.No)
	decides(t, letters, nil, api.Yes)
	decides(t, append(slices.Clone(letters[:7]), sized(0, 6)), nil, api.No)
	decides(t, append(slices.Clone(letters[:7]), sized(0, 7)), nil, api.Yes)
	decides(t, letters, ends[:7], api.Yes)
	decides(t, append(slices.Clone(letters[:7]), of("[a-h]*")), ends, api.No)
}

// More unlike Res than dfa has room for.
func TestFindsOfManyPatterns(t *testing.T) {
	for _, n := range []int{12, 13, 19, 20, 21, 22, 30, 63, 64} {
		all := spread(unlike(n))
		tells(t, all, nil, plenty, api.Yes)
		tells(t, all, sets(of(".*a"), of("b.*"), of("")), plenty, api.Yes)
		tells(t, all, sets(of("")), plenty, api.Yes)
		tells(t, all, all, plenty, api.No)
		tells(t, all, copies(8, of(unlike(8)...)), plenty, api.No)
		tells(t, nil, all, plenty, api.No)
		last := all[len(all)-1].Res
		last[len(last)-1] = "ab*"
		tells(t, all, nil, plenty, api.Yes)
		tells(t, all, sets(of("ab*")), plenty, api.No)
		tells(t, all, sets(of("a"), of("abb")), plenty, api.Yes)
		if n > 20 {
			all[0].Res[0] = "b*a"
			tells(t, all, nil, plenty, api.Yes)
			all[0].Res[1] = "b.*"
			tells(t, all, nil, plenty, api.No)
			all[0].Res[0], all[0].Res[1] = ".{3}", ".*bb"
			tells(t, all, nil, plenty, api.Yes)
			tells(t, all, sets(of("a.*", "abb"), of("x")), plenty, api.No)
		}
	}
	same := copies(8, of(copies(8, "a*")...)) // one pattern, 64 times
	decides(t, same, nil, api.Yes)
	decides(t, same, same, api.No)
	decides(t, append(same[:7:7], of("b*")), sets(of("")), api.No)
	var without []string
	for c := 'a'; c < 'a'+26; c++ {
		without = append(without, "[^"+string(c)+"]*")
	}
	tells(t, spread(append(without, ".+")), nil, plenty, api.Yes)
	tells(t, spread(append(without, "[a-z]|-")), nil, plenty, api.Yes)
	tells(t, spread(append(without[:15], "[a-o]+")), nil, plenty, api.No)
	if _, n := asked(t, spread(append(without, "[a-z]+")), nil, plenty); n != api.No && n != api.Unknown {
		t.Errorf("%d", n)
	}
}

// What is left out hangs on one Res of each set, be it the first or the second one, eight sets deep.
func TestFindsOfEachChoice(t *testing.T) {
	for n := 0; n < 256; n += 11 {
		want, letters := "", ""
		var none []api.Texts
		for at := range 8 {
			c := "bc"[n>>at&1]
			want += string(c)
			letters += "[a" + string(c) + "]"
			ahead := ".{" + strconv.Itoa(at) + "}"
			none = append(none, of(ahead+"[^b].*", ahead+"[^c].*"))
		}
		if s := tells(t, sets(of(letters)), none, plenty, api.Yes); s != want {
			t.Errorf("%s: %s", want, brief(s))
		}
		tells(t, sets(of(letters), of("[^a]*a.*")), none, plenty, api.No)
		tells(t, sets(of(letters)), append(none[:7:7], of(".{7}[^b].*", ".{7}[^c].*", "[^d]*")), plenty, api.Yes)
		tells(t, sets(of(letters)), append(none[:7:7], of("[^d]*")), plenty, api.No)
	}
}

// A set is in itself, and in what has a part of its Res, whatever they are.
func TestFindsOfHardPatterns(t *testing.T) {
	x := of("([ab]*a[ab]{20}){7}", "([ab]*b[ab]{19}){8}")
	tells(t, sets(x), nil, plenty, api.Unknown)
	tells(t, sets(x), sets(x), plenty, api.No)
	tells(t, sets(x), sets(of("c"), of(x.Res[1])), plenty, api.No)
	tells(t, sets(x), sets(sized(0, 500), set(400, -1, x.Res[0])), plenty, api.No)
	tells(t, sets(of(x.Res[0]), of(x.Res[1]), of("b*a")), sets(x), plenty, api.No)
}

// Eight sets of eight Res each of none, where there are more choices than can be gone through.
func TestFindsOfManyChoices(t *testing.T) {
	var none []api.Texts
	for at := range 8 {
		x := of()
		for c := 'a'; c < 'a'+8; c++ {
			x.Res = append(x.Res, ".{"+strconv.Itoa(at)+"}[^"+string(c)+"].*")
		}
		none = append(none, x)
	}
	for _, fuel := range []int{plenty, 1 << 40} {
		s := tells(t, sets(of("[a-p]{8}")), none, fuel, api.Yes)
		if strings.Trim(s, "abcdefgh") != "" {
			t.Errorf("%s", brief(s))
		}
		tells(t, sets(of("[i-p]{8}")), none, fuel, api.No)
		tells(t, sets(of("[a-h]{7}[i-p]")), none, fuel, api.No)
		tells(t, sets(of("[a-p]{8}")), append(none[:7:7], of(".{8}")), fuel, api.No)
		tells(t, sets(of("[a-p]{8}"), of(".{7}h")), none, fuel, api.Yes)
	}
}
