package rex_test

import (
	"math/rand"
	"strings"
	"testing"

	"entrepot/api"
	"entrepot/rex"
)

// Promise 10.2: Match, Any, Quote.

func TestMatches(t *testing.T) {
	for _, x := range []struct{ pattern, is, isNot string }{ // texts are divided by commas; "" is the empty one
		{"", ",", "a"}, {"()", ",", "a"}, {"a", "a", ",aa,b,A,ab,ba"}, {"ab", "ab", ",a,b,ba,abb,aab"}, {"a|b", "a,b", ",ab,aa,bb,c"}, {"a|", "a,", "aa,b"}, {"|", ",", "a"}, {"(a|)b", "ab,b", "a,,aab"}, {"ab|cd", "ab,cd", "abcd,ad,abd,acd,,b"}, {"a(b|c)d", "abd,acd", "ad,abcd,bd"},
		{"a*", ",a,aa,aaaaaaaaaaaaaaaaaaaaaaaaaaaaaa", "b,ab,ba,aab"}, {"a+", "a,aa,aaaaaaaaaaaaaaaaaaaaaaaaa", ",b,ab"}, {"a?", ",a", "aa,b"}, {"a{2}", "aa", ",a,aaa"}, {"a{2,}", "aa,aaa,aaaaaaaaaaaaaaaaaaaaaaaaaa", ",a,aab"}, {"a{2,3}", "aa,aaa", ",a,aaaa"}, {"a{0}", ",", "a,aa"}, {"a{0,0}", ",", "a"}, {"a{0}b", "b", ",ab,a"}, {"a{0,}", ",a,aa", "b"}, {"a{0,1}", ",a", "aa"}, {"a{1}", "a", ",aa"}, {"a{1,1}", "a", ",aa"}, {"a{0,2}b", "b,ab,aab", ",aaab,a"},
		{"a*b", "b,ab,aaab", ",a,aaa,ba,abb"}, {"a*a", "a,aa,aaa", ",b"}, {"a*a*a{2}", "aa,aaa", ",a"}, {"(ab)*", ",ab,abab", "a,aba,abb,ba"}, {"(a|b)*", ",a,b,ab,ba,bab", "c,abc"}, {"(ab|a)(c|bcd)", "abc,ac,abbcd,abcd", "ab,abcbcd,"}, {"(a|ab)(c|bcd)(d*)", "abcd,acd,abc,abbcd,abcddd", "abd"}, {"(a*)*", ",a,aa", "b"}, {"(a*)+", ",a,aa", "b"}, {"(a+)*", ",a,aa", "b"}, {"(a?)*", ",a,aa", "b"}, {"(a*)?", ",a,aa", "b"}, {"(|a)+", ",a,aa", "b"}, {"(a|b*)*", ",a,ab,bba", "c"}, {"(a*b*)*", ",abab,ba", "c"}, {"()*", ",", "a"}, {"(){3}a", "a", ",aa"}, {"(()|a){2}", ",a,aa", "aaa"},
		{"(a{2}){2}", "aaaa", "aa,aaa,aaaaa,"}, {"(a{2}){2,}", "aaaa,aaaaaa", "aaa,aaaaa,aa"}, {"(a{2,3}){2}", "aaaa,aaaaa,aaaaaa", "aaa,aaaaaaa"}, {"((a?){3}){2}", ",a,aaaaaa", "aaaaaaa"}, {"(a{0}){5}", ",", "a"}, {"(a|b){2}", "aa,ab,ba,bb", "a,aaa,ac"}, {"(ab?){2,3}", "aa,aba,abab,ababab,aaab", "a,ab,aaaa,abababab"},
		{".", "a,é,€,𝄞,\n,\x00,\U0010FFFF,\uD7FF,\uE000", ",aa,éé,\r\n"}, {".*", ",a,é\n€𝄞", "\xFF,a\xFF,\xED\xA0\x80"}, {"..", "aa,é€,𝄞𝄞", "a,é,𝄞,aaa"}, {".{2,3}", "ab,é€𝄞", "a,𝄞,abcd"}, {`\d`, "0,5,9", "a,/,:,,00,٣"}, {`\d+`, "0,0123456789", "a,1a"}, {`\n`, "\n", "n,\\n,\r"}, {`\t`, "\t", "t, "}, {`\.`, ".", "a,\\."}, {`\\`, `\`, `\\,a`}, {`\-\/`, "-/", "-,/"},
		{"[abc]", "a,b,c", "d,ab,,`,["}, {"[a-c]", "a,b,c", "d,-,`"}, {`[a\-c]`, "a,-,c", "b"}, {"[a-ce-g]", "a,c,e,g", "d,h,`"}, {"[^a-c]", "d,é,𝄞,\n,-", "a,b,c,,dd"}, {`[^\d]`, "a,é", "0,9"}, {"[^a]*", ",bcd,é€𝄞", "a,bca"}, {"[^x]{2,3}", "ab,é€𝄞", "a,xx,ax,abcd"}, {`[\n\t]`, "\n,\t", "n,t,\\"}, {"[.]", ".", "a"}, {"[*+?]+", "*,+?*", ",a"},
		{"é", "é", "e,\xC3,\xA9,É,éé,e\u0301"}, {"[é-€]", "é,€,α,ÿ", "a,è,₭,𝄞"}, {"é+€*𝄞", "é𝄞,éé€𝄞", "𝄞,é€,é"}, {"[^é]", "e,€,𝄞", "é"}, {"[\x00-\x7F]", "a,\x00,\x7F", "\u0080,é"}, {"[\u0080-\U0010FFFF]", "\u0080,é,\U0010FFFF", "a,\x7F"}, {"[^\x00-\x7F]", "\u0080,é", "a,\x7F"}, {"[\uD7FF-\uE000]", "\uD7FF,\uE000", "\uD7FE,\uE001,\xED\xA0\x80"}, {"\U0010FFFF", "\U0010FFFF", "\uFFFF,\U0010FFFE,\xF4\x90\x80\x80"},
		{"[^\x00-\U0010FFFF]", "\xFF"[:0] + "\x00"[:0], ",a,\x00,é,\U0010FFFF"}, {"[^\x00-\U0010FFFF]*", ",", "a,\x00"}, {"[^\x00-\U0010FFFF]|a", "a", ",b"}, {"a[^\x00-\U0010FFFF]?", "a", ",ab"}, {"a[^\x00-\U0010FFFF]", "", ",a,ab"}, {"([^\x00-\U0010FFFF]|a){2}", "aa", ",a"}, {"[\x00-\U0010FFFF]", "a,\x00,\U0010FFFF", ",aa"},
		{"(0|1(01*0)*1)*", "0,11,110,1001,1100,1111,10010", "1,10,100,101,111,1000"}, {`\d{4}-\d\d-\d\d(T.*)?`, "2026-11-19,2026-11-19T,2026-11-19Tx", "2026-11-1,02026-11-19,2026-11-19x"}, {`\/\*.*\*\/`, "/**/,/* a */,/***/", "/*/,/* */ "},
	} {
		r := parsed(t, x.pattern)
		for _, s := range strings.Split(x.isNot, ",") {
			matches(t, r, s, false)
		}
		if x.is != "" {
			for _, s := range strings.Split(x.is, ",") {
				matches(t, r, s, true)
			}
		}
		comesBack(t, r)
	}
}

func TestMatchesValidTextsAlone(t *testing.T) {
	for _, s := range []string{"\x80", "\xFF", "a\xFF", "\xFFa", "\xC3", "\xC0\x80", "\xE2\x82", "\xED\xA0\x80", "\xED\xBF\xBF", "\xF0\x9D\x84", "\xF4\x90\x80\x80", "\xF5\x80\x80\x80", strings.Repeat("a", 1000) + "\xC3"} {
		for _, p := range []string{".*", "", ".", "..", "[^a]*", "(a|[^b])*", "[^\x00]+", "[\uD7FF-\uE000]*", "(.|.*)+a?"} {
			matches(t, parsed(t, p), s, false)
		}
		matches(t, rex.Any(), s, false)
		matches(t, rex.Quote(s), s, false)
		matches(t, seq(rex.Any(), rex.Any()), s, false)
	}
}

// holds holds Match against the library, and against what goes through all of it.
func holds(t *testing.T, p string, list []string) {
	t.Helper()
	r, library := parsed(t, p), told(p)
	for _, s := range list {
		want := library.MatchString(s)
		if rex.Match(r, s) != want || walksTo(r, s) != want {
			t.Fatalf("Match(%s, %s) = %v, of %s", brief(p), brief(s), !want, show(r))
		}
	}
}

func TestMatchOfAllShortPatterns(t *testing.T) {
	read := 0
	try := func(list []string) func(string) {
		return func(p string) {
			if _, err := rex.Parse(p); err == api.OK {
				read++
				holds(t, p, list)
			}
		}
	}
	ab := texts(4, "a", "b")
	gone(5, strings.Split("a b ( ) | * ? {2}", " "), "", try(ab))
	gone(3, strings.Split("a (a|b) (ab) (a|) | * + ? {0} {2} {2,} {0,2} {1,2} . [^a] () (a*b)*", " "), "", try(ab))
	gone(3, strings.Split(`a é [a-é] [^é] . \d [é𝄞] [^\d] * | {2}`, " "), "", try(append(texts(2, "a", "é", "€", "𝄞", "0"), "aéa", "𝄞𝄞𝄞", "000")))
	gone(3, strings.Split(`( ) | a* b{2} (a|b)+ (ab?){0,2}`, " "), "(", func(p string) { try(ab)(p + ")*") })
	if read < 5000 {
		t.Errorf("%d patterns alone", read)
	}
}

// built is patterns of pieces of ones of fewer levels.
func built(random *rand.Rand, levels int) api.Re {
	if levels == 0 {
		return []api.Re{a, b, dot(), set(), seq(), set('a', 'b'), set(0, '`', 'b', 0xD7FF, 0xE000, top), one(0xE9)}[random.Intn(8)]
	}
	part := func() api.Re { return built(random, random.Intn(levels)) }
	switch random.Intn(3) {
	case 0:
		return seq(part(), part(), part())
	case 1:
		return alt(part(), part())
	}
	least := random.Intn(4)
	return rep(least, []int{-1, least, least + 1, least + 2}[random.Intn(4)], part())
}

func TestMatchOfBuiltPatterns(t *testing.T) {
	random := rand.New(rand.NewSource(10))
	list := append(texts(3, "a", "b", "é"), "aaaa", "abab", "bbbb", "aaaaa", "ababa", "aaaaaa", "éaéaé", "bbbbbbb")
	for range 3000 {
		r := built(random, 5)
		if rex.Size(r) > 200 {
			mayNot(t, r)
			continue
		}
		for _, s := range list {
			if want := walksTo(r, s); rex.Match(r, s) != want {
				t.Fatalf("Match(%s, %s) = %v", show(r), brief(s), !want)
			}
		}
		comesBack(t, r)
	}
}

// Ones that go on in very many ways at once, and long texts.
func TestMatchEnds(t *testing.T) {
	long := strings.Repeat("ab", 50_000)
	for p, want := range map[string]bool{".*": true, "(a|b)*": true, "(ab)*": true, "(ba)*": false, "((a*)*b*)*": true, "((a?b?)*)*": true, "((((.*)*)*)*)*": true, "((.*.*){4}){9}": true, "((.?){9}){9,}": true, "(.*a.*b){20}": true, "(.*a.*b){20}c": false, "(a|b|ab|ba)*": true, "(.|..|...)*": true, "(.|..|...)*c": false, "a*": false, ".{20}": false, ".*b": true, ".*a": false, "(a|ab)(.*)(b|ab)": true, "(.*[^ab]).*": false} {
		matches(t, parsed(t, p), long, want)
	}
	many := strings.Repeat("a", 30)
	matches(t, parsed(t, "(a*)*b"), many, false)
	matches(t, parsed(t, "(a|a)*b"), many, false)
	matches(t, parsed(t, "(a|aa)+b"), many, false)
	matches(t, parsed(t, "(a?){20}a{20}"), many, true)
	matches(t, parsed(t, "(a?){9}a{20}"), many, false)
	matches(t, parsed(t, "(((a+)+)+)+b"), many, false)
	matches(t, nested(15, rep(0, -1, a).L[0]), "a", true)
	matches(t, seq(copies(199, rex.Quote("a"))...), strings.Repeat("a", 199), true)
	matches(t, seq(copies(199, rex.Quote("a"))...), strings.Repeat("a", 198), false)
	matches(t, seq(copies(199, rex.Quote("a"))...), strings.Repeat("a", 200), false)
	matches(t, alt(copies(199, seq())...), "", true)
}

// Depths and sizes that Parse reads not, but that may be.
func TestMatchBeyondParse(t *testing.T) {
	for n := 12; n < 16; n++ {
		matches(t, nested(n, a), "a", true)
		matches(t, nested(n, a), "", true)
		matches(t, nested(n, a), "aa", false)
	}
	matches(t, nested(16, a), "a", false)
	matches(t, nested(16, a), "", false)
}

func TestAny(t *testing.T) {
	if r := rex.Any(); !same(r, rep(0, -1, dot())) || !rex.May(r) {
		t.Errorf("Any() = %s", show(r))
	}
	sized(t, rex.Any(), 2)
	comesBack(t, rex.Any())
	for _, s := range append(texts(3, "a", "é", "€", "𝄞", "\x00", "\n", "\U0010FFFF"), strings.Repeat("€", 10_000)) {
		matches(t, rex.Any(), s, true)
	}
}

func TestQuote(t *testing.T) {
	for s, want := range map[string]api.Re{"": seq(), "a": a, "ab": seq(a, b), "é": one(0xE9), "a.b": seq(a, one('.'), b), "(": one('('), `\d`: seq(one('\\'), one('d')), "[a]": word("[a]"), "a*": word("a*"), "aa": seq(a, a), "a|": word("a|"), "\x00\n\t": word("\x00\n\t"), "é€𝄞": word("é€𝄞"), "\uD7FF\uE000": word("\uD7FF\uE000"), "\U0010FFFF": one(top)} {
		if r := rex.Quote(s); !same(r, want) {
			t.Errorf("Quote(%s) = %s, not %s", brief(s), show(r), show(want))
		}
		comesBack(t, rex.Quote(s))
	}
	for _, s := range []string{"\xFF", "a\xFF", "\xFFa", "\x80", "\xC3", "\xC0\x80", "\xED\xA0\x80", "\xF4\x90\x80\x80", strings.Repeat("a", 300) + "\xFF"} {
		if r := rex.Quote(s); !same(r, seq()) {
			t.Errorf("Quote(%s) = %s", brief(s), show(r))
		}
		matches(t, rex.Quote(s), "", true)
	}
}

func TestQuoteMatchesItsTextAlone(t *testing.T) {
	list := texts(2, "a", "b", "é", "€", "𝄞", ".", "*", `\`, "(", ")", "[", "]", "^", "$", "-", "|", "?", "{", "}", "+", "/", "d", "n", "\n", "\t", "\x00", "2")
	for _, s := range list {
		r := rex.Quote(s)
		for i := range list {
			if rex.Match(r, list[i]) != (list[i] == s) {
				t.Fatalf("Match(Quote(%s), %s)", brief(s), brief(list[i]))
			}
		}
		matches(t, r, s+s+"a", false)
		comesBack(t, r)
	}
	for _, p := range []string{"a", "é", "€", "𝄞", `\`, "."} {
		for _, n := range []int{3, 50, 198, 199} {
			s := strings.Repeat(p, n)
			matches(t, rex.Quote(s), s, true)
			matches(t, rex.Quote(s), s+p, false)
			matches(t, rex.Quote(s), s[:len(s)-len(p)], false)
			matches(t, rex.Quote(s), s[:len(s)-len(p)]+"b", false)
			sized(t, rex.Quote(s), n+1)
		}
		for _, n := range []int{200, 201, 1000, 4096} {
			s := strings.Repeat(p, n)
			r := rex.Quote(s)
			if !same(r, word(s)) {
				t.Errorf("Quote(%s) = %s", brief(s), show(r))
			}
			mayNot(t, r)
			matches(t, r, s, false)
		}
	}
}
