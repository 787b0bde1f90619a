package dfa_test

import (
	"slices"
	"strings"
	"testing"

	"entrepot/api"
	"entrepot/rex"
)

// Promise 11.1: what is found, and that there is none.

func TestFindsOfOnePattern(t *testing.T) {
	for pattern, want := range map[string]string{
		"()": "", "a": "a", "é": "é", "€": "€", "𝄞": "𝄞", "abc": "abc", "a{3}": "aaa", "a+": "a", "a*": "", "a?": "", "(ab){2,3}": "abab", "a{0}b": "b", "(a|)b": "b", `\d{0}\.`: ".", "((((a))))": "a", "(a{2}){3}": "aaaaaa", "(a*)*": "", "(a+)+b": "ab", "a(bc)*d": "ad",
		"[^\x00-\U0010FFFE]": "\U0010FFFF", "[^\x00-`b-\U0010FFFF]": "a", "[\uD7FF-\uE000]é": "\uD7FFé", "[^\x00-\uD7FF\uE001-\U0010FFFF]": "\uE000",
	} {
		all := parsed(t, pattern)
		if s := decides(t, all, nil, free, api.Yes); s != want {
			t.Errorf("%s: %s", brief(pattern), brief(s))
		}
		decides(t, nil, all, free, api.Yes)
	}
	for _, pattern := range []string{"[^\x00-\U0010FFFF]", "a[^\x00-\U0010FFFF]", "[^\x00-\U0010FFFF]a", "(a|b)*[^\x00-\U0010FFFF]+", "([^\x00-\U0010FFFF]|[^\x00-\U0010FFFF]a){2}"} {
		decides(t, parsed(t, pattern), nil, free, api.No)
		decides(t, nil, parsed(t, pattern), free, api.Yes)
	}
	for _, pattern := range []string{".*", "(|.|..+)", "(a|[^a])*", "(.*a.*|[^a]*)", "[^\x00-\U0010FFFF]*.*", "(()|.+)"} {
		decides(t, nil, parsed(t, pattern), free, api.No)
		decides(t, parsed(t, pattern), nil, free, api.Yes)
	}
}

func TestFindsWithinOneAnother(t *testing.T) {
	for _, c := range []struct {
		all, none string
		want      int
	}{
		{"[a-c]+", "a+", api.Yes}, {"a+", "[a-c]+", api.No}, {"a", "a*", api.No}, {"a*", "a", api.Yes}, {"a*", "a+", api.Yes}, {"a*", "() a+", api.No}, {"a*", "a{0,5} a{7,}", api.Yes}, {"a*", "a{0,5} a{6,}", api.No},
		{"(ab)*", "a.* ()", api.No}, {"(a|b)*", "a.* b.* ()", api.No}, {"(a|b)*", "a.* b.+ ()", api.Yes}, {"((ab|c)d?)+", ".*c.*", api.Yes}, {"((ab|c)d?)+", ".*c.* .*b.*", api.No},
		{".*a.* .*b.*", "", api.Yes}, {".*a.* .*b.*", ".*ab.* .*ba.*", api.Yes}, {".*a.* .*b.* [ab]*", ".*ab.* .*ba.*", api.No}, {".*a.* [^a]*", "", api.No}, {"a.* .*b ..", "", api.Yes}, {"a.* .*b .", "", api.No},
		{"(aa)* (aaa)*", "", api.Yes}, {"(aa)+ (aaa)+", "", api.Yes}, {"(aa)+ (aaa)+", "(a{6})+", api.No}, {"(aa)+", "(a{4})+", api.Yes}, {"(a{4})+", "(aa)+", api.No}, {"a(aa)* (aa)*", "", api.No},
		{"", "", api.Yes}, {"", ".* ()", api.No}, {"", ".+", api.Yes}, {"", ".+ ()", api.No}, {"", ". .. .{3,}", api.Yes}, {"()", ".", api.Yes}, {"()", "() .", api.No}, {"a b", "", api.No}, {"[ab] [bc]", "", api.Yes}, {"[ab] [bc]", "b", api.No},
		{"(a{2,3}){2}", "a{4} a{6}", api.Yes}, {"(a{2,3}){2}", "a{4} a{5} a{6}", api.No}, {"(a?){5}b*", "a*b?", api.Yes}, {"(a?){5}", "a*", api.No}, {"(a{3,}){2,}", "a{6,}", api.No}, {"a{6,}", "(a{3,}){2,}", api.No}, {"(a{2}){2,}", "a{4,}", api.No}, {"a{4,}", "(a{2}){2,}", api.Yes},
		{"(a|ab)(c|bcd)", "abcd abc acd? abbcd", api.No}, {"(a|ab)(c|bcd)", "abcd acd? ac abbcd", api.Yes}, {".{3}", "[^a].. .[^a]. ..[^a]", api.Yes}, {".{3}", "[^a].. .[^a]. ..[^a] aaa", api.No}, {`\d{4}-\d\d(T.*)?`, `[^T]*`, api.Yes}, {`\d{4}-\d\d`, `[^T]*`, api.No},
	} {
		finds(t, c.all, c.none, free, c.want)
	}
}

// Sets that meet in part, touch, stand within one another, at all the ends that code points have.
func TestFindsOfSets(t *testing.T) {
	ends := []int{0, 'a', 'b', 'c', 0x7F, 0x80, 0x7FF, 0x800, 0xD7FE, 0xD7FF, 0xE000, 0xE001, 0xFFFF, 0x10000, top - 1, top}
	ranges := []api.Re{set()}
	for i, lo := range ends {
		for _, hi := range ends[i:] {
			if lo <= 0xD7FF && hi >= 0xE000 {
				ranges = append(ranges, set(lo, 0xD7FF, 0xE000, hi))
			} else {
				ranges = append(ranges, set(lo, hi))
			}
		}
	}
	verdict := func(found bool) int {
		if found {
			return api.Yes
		}
		return api.No
	}
	for _, x := range ranges {
		for _, y := range ranges {
			both, alone, neither := false, false, false
			for _, c := range append(ends, 2, 'z', 0x81, 0x801, 0xE002, 0x10001) {
				inX, inY := holds(x, c), holds(y, c)
				both, alone, neither = both || inX && inY, alone || inX && !inY, neither || !inX && !inY
			}
			tells(t, []api.Re{x, y}, nil, free, plenty, verdict(both))
			tells(t, []api.Re{x}, []api.Re{y}, free, plenty, verdict(alone))
			tells(t, nil, []api.Re{y, x}, just(1), plenty, verdict(neither))
		}
	}
}

func holds(r api.Re, c int) bool {
	return slices.ContainsFunc(r.Set, func(x api.Range) bool { return x.Lo <= c && c <= x.Hi })
}

func TestFindsOfManyRanges(t *testing.T) {
	third := func(rest int) api.Re {
		r := set()
		for c := rest; c <= top; c += 3 {
			if c < 0xD800 || c > 0xDFFF {
				r.Set = append(r.Set, api.Range{Lo: c, Hi: c})
			}
		}
		return r
	}
	a, b, c := third(0), third(1), third(2)
	tells(t, []api.Re{a, b}, nil, free, plenty, api.No)
	tells(t, nil, []api.Re{a, b, c}, just(1), plenty, api.No)
	tells(t, nil, []api.Re{a, b}, just(1), plenty, api.Yes)
	tells(t, []api.Re{seq(a, b, c)}, []api.Re{seq(b, a, c), seq(dot(), b, one(2))}, free, plenty, api.Yes)
	tells(t, []api.Re{rep(2, -1, alt(a, b))}, []api.Re{star(set(0, 1000)), star(set(500, 0xD7FF, 0xE000, top))}, free, plenty, api.Yes)
}

func TestFindsOfBuiltPatterns(t *testing.T) {
	deep := one('a')
	for range 14 {
		deep = rep(0, 1, deep)
	}
	decides(t, []api.Re{rep(1, -1, deep)}, []api.Re{rep(0, 20, one('a'))}, free, api.Yes) // deeper than what is read
	decides(t, []api.Re{seq(copies(199, one('a'))...)}, nil, free, api.Yes)
	decides(t, []api.Re{seq(copies(199, one('a'))...)}, []api.Re{star(one('a'))}, free, api.No)
	decides(t, []api.Re{alt(copies(199, set())...)}, nil, free, api.No)
	decides(t, []api.Re{seq(copies(199, rep(0, 0, seq()))[:99]...)}, []api.Re{seq()}, free, api.No)
	decides(t, []api.Re{rep(20, 20, rep(0, 8, one('a')))}, nil, just(160), api.Yes)
	decides(t, []api.Re{rep(20, 20, rep(0, 8, one('a')))}, nil, just(161), api.No)
	decides(t, []api.Re{{Kind: api.ReSeq, Set: []api.Range{}, L: []api.Re{}}}, []api.Re{}, free, api.Yes)
	decides(t, []api.Re{{Kind: api.ReSet, Set: []api.Range{}, L: []api.Re{}}}, []api.Re{}, free, api.No)
}

// The same pattern in all and none, and one and a part of it.
func TestFindsOfTheSamePattern(t *testing.T) {
	for _, pattern := range []string{"()", "a", "a*", ".*", "[^a]+", "(ab|c){2,3}", "é?", "[ab]*a[ab]{5}", "(a|b|ab)*(c|bc)", "[^\x00-\U0010FFFF]", strings.Repeat("ab", 45)} {
		p := parsed(t, pattern)[0]
		decides(t, []api.Re{p}, []api.Re{p}, free, api.No)
		decides(t, []api.Re{p, p, p}, []api.Re{one('z'), p}, free, api.No)
		decides(t, []api.Re{p}, []api.Re{alt(p, one('z'))}, free, api.No)
		if !rex.Match(p, "z") {
			decides(t, []api.Re{alt(p, one('z'))}, []api.Re{p}, free, api.Yes)
		}
		decides(t, []api.Re{p}, []api.Re{seq(p, star(dot()))}, free, api.No)
		decides(t, []api.Re{p, rep(0, 1, p)}, []api.Re{rep(1, 2, p)}, free, api.No)
	}
	finds(t, "a.*", "ab.*", free, api.Yes)
	finds(t, "ab.*", "a.*", free, api.No)
	finds(t, "(ab)*c", "c", free, api.Yes)
}

func TestFindsOfTwentyPatterns(t *testing.T) {
	a, b := parsed(t, "[ab]*")[0], parsed(t, ".*b")[0]
	for n := range 21 {
		all, none := copies(n, a), copies(20-n, b)
		if n == 20 {
			decides(t, all, nil, just(3), api.Yes)
		} else if s := decides(t, all, none, just(3), api.Yes); n > 0 && !strings.HasSuffix(s, "a") {
			t.Errorf("%d: %s", n, brief(s))
		}
		tells(t, append(all, a), none, just(3), plenty, wrong)
		tells(t, all, append(none, a), just(3), plenty, wrong)
	}
	var ends []api.Re
	for c := 'a'; c < 'a'+19; c++ {
		ends = append(ends, seq(star(dot()), one(int(c))))
	}
	decides(t, []api.Re{rep(1, -1, set('a', 't'))}, ends, free, api.Yes)
	decides(t, []api.Re{rep(1, -1, set('a', 's'))}, ends, free, api.No)
	decides(t, ends[:2], ends[3:], free, api.No)
	decides(t, nil, append(ends, seq(star(dot()), set(0, '`', 't', 0xD7FF, 0xE000, top))), sized(1, -1), api.No)
}
