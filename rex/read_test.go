package rex_test

import (
	"slices"
	"strings"
	"testing"

	"entrepot/api"
	"entrepot/rex"
)

// Promise 10.1: what Parse reads, and what it means.

func TestReadsAtoms(t *testing.T) {
	for _, c := range []int{0, 1, 8, 9, 10, 13, ' ', '!', '"', '#', '%', '&', '\'', ',', '-', '/', '0', '9', ':', ';', '<', '=', '>', '@', 'A', 'Z', '_', '`', 'a', 'd', 'n', 't', 'z', '~', 0x7F, 0x80, 0xE9, 0x7FF, 0x800, 0x20AC, 0xD7FF, 0xE000, 0xFFFD, 0xFFFF, 0x10000, 0x1D11E, top} {
		s := string(rune(c))
		reads(t, s, one(c))
		reads(t, s+"b", seq(one(c), b))
		reads(t, "b"+s, seq(b, one(c)))
		reads(t, "("+s+")", one(c))
		reads(t, s+"*", rep(0, -1, one(c)))
		reads(t, s+"|"+s, alt(one(c), one(c)))
	}
	reads(t, ".", dot())
	reads(t, `\d`, set('0', '9'))
	reads(t, `\n`, one(10))
	reads(t, `\t`, one(9))
	reads(t, "..", seq(dot(), dot()))
	reads(t, `\d\n\t`, seq(set('0', '9'), one(10), one(9)))
	for _, sign := range `\.[](){}*+?|^$-/` {
		reads(t, `\`+string(sign), one(int(sign)))
		reads(t, `a\`+string(sign)+`b`, seq(a, one(int(sign)), b))
		reads(t, `\`+string(sign)+`{2}`, rep(2, 2, one(int(sign))))
		reads(t, `\\\`+string(sign), seq(one('\\'), one(int(sign))))
	}
}

func TestReadsSequencesAndAlternatives(t *testing.T) {
	for s, want := range map[string]api.Re{
		"": seq(), "()": seq(), "(())": seq(), "a": a, "(a)": a, "((((a))))": a, "ab": seq(a, b), "(ab)": seq(a, b), "abc": seq(a, b, c),
		"a(bc)": seq(a, seq(b, c)), "(ab)c": seq(seq(a, b), c), "(ab)(c)": seq(seq(a, b), c), "a()": seq(a, seq()), "()a": seq(seq(), a), "a()b": seq(a, seq(), b), "()()": seq(seq(), seq()), "(()())": seq(seq(), seq()), "((ab))": seq(a, b), "a((bc))": seq(a, seq(b, c)),
		"|": alt(seq(), seq()), "||": alt(seq(), seq(), seq()), "(|)": alt(seq(), seq()), "a|": alt(a, seq()), "|a": alt(seq(), a), "(a|)": alt(a, seq()), "(|a)": alt(seq(), a), "a||b": alt(a, seq(), b), "()|()": alt(seq(), seq()),
		"a|b": alt(a, b), "a|b|c": alt(a, b, c), "a|(b|c)": alt(a, alt(b, c)), "(a|b)|c": alt(alt(a, b), c), "((a|b))": alt(a, b), "ab|c": alt(seq(a, b), c), "a|bc": alt(a, seq(b, c)), "a(b|c)": seq(a, alt(b, c)), "(a|b)c": seq(alt(a, b), c), "(ab|c)": alt(seq(a, b), c), "a|a": alt(a, a),
		"(a|b)(b|c)": seq(alt(a, b), alt(b, c)), "a(|)b": seq(a, alt(seq(), seq()), b), "(a(b(c)))": seq(a, seq(b, c)),
	} {
		reads(t, s, want)
	}
	reads(t, strings.Repeat("(", 199)+"ab"+strings.Repeat(")", 199), seq(a, b))
	reads(t, strings.Repeat("(", 200)+strings.Repeat(")", 200), seq())
	reads(t, strings.Repeat("|", 198), alt(copies(199, seq())...))
	reads(t, strings.Repeat("()", 199), seq(copies(199, seq())...))
	reads(t, strings.Repeat("a", 199), seq(copies(199, a)...))
}

func TestReadsRepeats(t *testing.T) {
	for s, want := range map[string][2]int{
		"*": {0, -1}, "+": {1, -1}, "?": {0, 1}, "{0}": {0, 0}, "{0,0}": {0, 0}, "{0,}": {0, -1}, "{1}": {1, 1}, "{1,}": {1, -1}, "{0,1}": {0, 1}, "{2}": {2, 2}, "{2,}": {2, -1}, "{2,3}": {2, 3}, "{2,2}": {2, 2}, "{19}": {19, 19},
		"{20}": {20, 20}, "{20,}": {20, -1}, "{0,20}": {0, 20}, "{20,20}": {20, 20}, "{10,15}": {10, 15}, "{9,10}": {9, 10},
		"{00}": {0, 0}, "{000}": {0, 0}, "{01}": {1, 1}, "{001}": {1, 1}, "{020}": {20, 20}, "{020,}": {20, -1}, "{000,020}": {0, 20}, "{007,8}": {7, 8}, "{7,008}": {7, 8}, "{7,08}": {7, 8},
	} {
		least, most := want[0], want[1]
		reads(t, "a"+s, rep(least, most, a))
		reads(t, "(a)"+s, rep(least, most, a))
		reads(t, "()"+s, rep(least, most, seq()))
		reads(t, "."+s, rep(least, most, dot()))
		reads(t, `\d`+s, rep(least, most, set('0', '9')))
		reads(t, `\{`+s, rep(least, most, one('{')))
		reads(t, "[ab]"+s, rep(least, most, set('a', 'b')))
		reads(t, "(ab)"+s, rep(least, most, seq(a, b)))
		reads(t, "(a|)"+s, rep(least, most, alt(a, seq())))
		reads(t, "ab"+s, seq(a, rep(least, most, b)))
		reads(t, "a"+s+"b", seq(rep(least, most, a), b))
		reads(t, "a"+s+"|b"+s, alt(rep(least, most, a), rep(least, most, b)))
		reads(t, "(a"+s+")?", rep(0, 1, rep(least, most, a)))
		reads(t, "((a"+s+"))*", rep(0, -1, rep(least, most, a)))
		reads(t, "(a?)"+s, rep(least, most, rep(0, 1, a)))
		reads(t, "𝄞"+s, rep(least, most, one(0x1D11E)))
	}
	reads(t, "((a*)+)?", rep(0, 1, rep(1, -1, rep(0, -1, a))))
	reads(t, "()*", rep(0, -1, seq()))
	reads(t, "a+b*c?", seq(rep(1, -1, a), rep(0, -1, b), rep(0, 1, c)))
}

func TestReadsClasses(t *testing.T) {
	for s, want := range map[string]api.Re{
		"[a]": a, "[aa]": a, "[aaaa]": a, "[a-a]": a, "[a-aa-a]": a, "[ab]": set('a', 'b'), "[ba]": set('a', 'b'), "[a-b]": set('a', 'b'), "[ac]": set('a', 'a', 'c', 'c'), "[ca]": set('a', 'a', 'c', 'c'), "[abc]": set('a', 'c'), "[acb]": set('a', 'c'), "[a-c]": set('a', 'c'),
		"[a-cd-f]": set('a', 'f'), "[d-fa-c]": set('a', 'f'), "[a-cb-f]": set('a', 'f'), "[b-fa-c]": set('a', 'f'), "[a-fb-c]": set('a', 'f'), "[b-ca-f]": set('a', 'f'), "[a-fa-f]": set('a', 'f'), "[a-ce-g]": set('a', 'c', 'e', 'g'), "[e-ga-c]": set('a', 'c', 'e', 'g'), "[e-ga-cd]": set('a', 'g'),
		"[z0-9a]": set('0', '9', 'a', 'a', 'z', 'z'), "[a-zA-Z0-9_]": set('0', '9', 'A', 'Z', '_', '_', 'a', 'z'), "[a-fd-zm]": set('a', 'z'), "[x-zc-ea-d]": set('a', 'e', 'x', 'z'),
		`[\d]`: set('0', '9'), `[\da-f]`: set('0', '9', 'a', 'f'), `[a-f\d]`: set('0', '9', 'a', 'f'), `[/\d:]`: set('/', ':'), `[5\d]`: set('0', '9'), `[\d\d]`: set('0', '9'), `[\n]`: one(10), `[\t]`: one(9), `[\t\n]`: set(9, 10), `[\n\t]`: set(9, 10), `[\t-\n]`: set(9, 10), `[\n-a]`: set(10, 'a'), "[\n-\r]": set(10, 13),
		"[.]": one('.'), "[(]": one('('), "[)]": one(')'), "[{]": one('{'), "[}]": one('}'), "[*]": one('*'), "[+]": one('+'), "[?]": one('?'), "[|]": one('|'), "[$]": one('$'), "[/]": one('/'), "[,]": one(','), "[(|)]": set('(', ')', '|', '|'), "[a{2}]": set('2', '2', 'a', 'a', '{', '{', '}', '}'), "[(-+]": set('(', '+'), "[d]": one('d'),
		`[\\]`: one('\\'), `[\^]`: one('^'), `[\-]`: one('-'), `[\]]`: one(']'), `[\[]`: one('['), `[\/]`: one('/'), `[\.]`: one('.'), `[\\-\]]`: set('\\', ']'), `[+-\-]`: set('+', '-'), `[\--\/]`: set('-', '/'), `[\--0]`: set('-', '0'), `[\[-\]]`: set('[', ']'), `[\(-\+]`: set('(', '+'), `[a\-z]`: set('-', '-', 'a', 'a', 'z', 'z'), `[\[-\^a]`: set('[', '^', 'a', 'a'),
		"[^a]": set(0, '`', 'b', 0xD7FF, 0xE000, top), "[^ab]": set(0, '`', 'c', 0xD7FF, 0xE000, top), "[^a-z]": set(0, '`', '{', 0xD7FF, 0xE000, top), "[^ac]": set(0, '`', 'b', 'b', 'd', 0xD7FF, 0xE000, top), "[^ca]": set(0, '`', 'b', 'b', 'd', 0xD7FF, 0xE000, top), `[^\d]`: set(0, '/', ':', 0xD7FF, 0xE000, top), `[^\^]`: set(0, ']', '_', 0xD7FF, 0xE000, top), `[^\n]`: set(0, 9, 11, 0xD7FF, 0xE000, top), `[^\t-\n]`: set(0, 8, 11, 0xD7FF, 0xE000, top), `[^\-]`: set(0, ',', '.', 0xD7FF, 0xE000, top), "[^a-cd-f]": set(0, '`', 'g', 0xD7FF, 0xE000, top),
		"[^\x00]": set(1, 0xD7FF, 0xE000, top), "[^\x00-a]": set('b', 0xD7FF, 0xE000, top), "[^\U0010FFFF]": set(0, 0xD7FF, 0xE000, top-1), "[^a-\U0010FFFF]": set(0, '`'),
	} {
		reads(t, s, want)
		reads(t, "("+s+")", want)
		reads(t, s+s, seq(want, want))
		reads(t, "a"+s+"{2}", seq(a, rep(2, 2, want)))
	}
}

func TestReadsClassesBeyondASCII(t *testing.T) {
	for s, want := range map[string]api.Re{
		"[é]": one(0xE9), "[é€𝄞]": set(0xE9, 0xE9, 0x20AC, 0x20AC, 0x1D11E, 0x1D11E), "[𝄞€é]": set(0xE9, 0xE9, 0x20AC, 0x20AC, 0x1D11E, 0x1D11E), "[a-é]": set('a', 0xE9), "[é-€]": set(0xE9, 0x20AC), "[α-ω]": set(0x3B1, 0x3C9), "[a-zα-ω]": set('a', 'z', 0x3B1, 0x3C9),
		"[\x7F]": one(127), "[\u0080]": one(128), "[\x7F\u0080]": set(127, 128), "[\x7F-\u0080]": set(127, 128), "[\u0080-\u0081~-\x7F]": set(126, 129), "[\x00-\x7F]": set(0, 127), "[\u0080-\U0010FFFF]": set(128, 0xD7FF, 0xE000, top), "[^\x00-\x7F]": set(128, 0xD7FF, 0xE000, top), "[^\u0080-\U0010FFFF]": set(0, 127), "[^\x7F]": set(0, 126, 128, 0xD7FF, 0xE000, top), "[^\u0080]": set(0, 127, 129, 0xD7FF, 0xE000, top),
		"[\u07FF-\u0800]": set(0x7FF, 0x800), "[\uFFFF\U00010000]": set(0xFFFF, 0x10000),
		"[\uD7FF]": one(0xD7FF), "[\uE000]": one(0xE000), "[\U0010FFFF]": one(top), "[\uD7FF\uE000]": set(0xD7FF, 0xD7FF, 0xE000, 0xE000), "[\uE000\uD7FF]": set(0xD7FF, 0xD7FF, 0xE000, 0xE000), "[\uD7FF-\uE000]": set(0xD7FF, 0xD7FF, 0xE000, 0xE000), "[\uD000-\uE100]": set(0xD000, 0xD7FF, 0xE000, 0xE100), "[a-\uD7FF]": set('a', 0xD7FF), "[a-\uE000]": set('a', 0xD7FF, 0xE000, 0xE000), "[\uE000-\U0010FFFF]": set(0xE000, top), "[\uD7FF-\U0010FFFF]": set(0xD7FF, 0xD7FF, 0xE000, top), "[\uD7FE-\uD7FF\uE000-\uE001]": set(0xD7FE, 0xD7FF, 0xE000, 0xE001),
		"[^\uD7FF]": set(0, 0xD7FE, 0xE000, top), "[^\uE000]": set(0, 0xD7FF, 0xE001, top), "[^\uD7FF\uE000]": set(0, 0xD7FE, 0xE001, top), "[^\uD7FF-\uE000]": set(0, 0xD7FE, 0xE001, top), "[^\x00-\uD7FF]": set(0xE000, top), "[^\uE000-\U0010FFFF]": set(0, 0xD7FF), "[^\uD000-\uE100]": set(0, 0xCFFF, 0xE101, top),
		"[\x00-\U0010FFFF]": dot(), "[\x00-\uD7FF\uE000-\U0010FFFF]": dot(), "[\uE000-\U0010FFFF\x00-\uD7FF]": dot(), "[\x00-ab-\U0010FFFF]": dot(), "[^\x00-\U0010FFFF]": set(), "[^\x00-\uD7FF\uE000-\U0010FFFF]": set(), "[^b-\U0010FFFF\x00-a]": set(), "[\x00\U0010FFFF]": set(0, 0, top, top), "[^\x00\U0010FFFF]": set(1, 0xD7FF, 0xE000, top-1), "[\x00]": one(0),
	} {
		reads(t, s, want)
		reads(t, s+"|é", alt(want, one(0xE9)))
	}
	parts := parsed(t, "[^a]|.")
	if len(parts.L[0].Set) != 3 || len(parts.L[1].Set) != 2 {
		t.Error("[^a]: two, three ranges")
	}
}

// A class of these ranges is what is marked by going through each of them.
func TestClassesOfAllSmallRanges(t *testing.T) {
	edges := []int{0x30, 0x31, 0x32, 0x34, 0x37, 0x7E, 0x7F, 0x80, 0xD7FE, 0xD7FF, 0xE000, 0xE001, 0xE003, top - 1, top}
	var ranges []api.Range
	for i, lo := range edges {
		for _, hi := range edges[i:] {
			ranges = append(ranges, api.Range{Lo: lo, Hi: hi})
		}
	}
	text := func(r api.Range) string { return string(rune(r.Lo)) + "-" + string(rune(r.Hi)) }
	for i, x := range ranges {
		for j := i % 3; j < len(ranges); j += 3 {
			l := []api.Range{x, ranges[j], ranges[(i*7+j*11)%len(ranges)]}
			body := text(l[0]) + text(l[1]) + text(l[2])
			for _, turned := range []bool{false, true} {
				s := "[" + body + "]"
				if turned {
					s = "[^" + body + "]"
				}
				r := parsed(t, s)
				isNormal(t, s, r.Set)
				for _, c := range append(edges, 0, 0x2F, 0x33, 0x36, 0x38, 0x81, 0xD7FD, 0xE002, 0xE004, top-2) {
					hold := func(x api.Range) bool { return x.Lo <= c && c <= x.Hi }
					if slices.ContainsFunc(r.Set, hold) != (slices.ContainsFunc(l, hold) != turned) {
						t.Fatalf("Parse(%s) = %s at %x", brief(s), show(r), c)
					}
				}
			}
		}
	}
}

// isNormal holds a set against what 10.1 says of it.
func isNormal(t *testing.T, s string, ranges []api.Range) {
	t.Helper()
	before := -2
	for _, x := range ranges {
		if x.Lo < before+2 || x.Hi < x.Lo || x.Hi > top || x.Lo <= 0xDFFF && x.Hi >= 0xD800 {
			t.Fatalf("Parse(%s) has %x", brief(s), ranges)
		}
		before = x.Hi
	}
}

func TestReadsPatternsWithinPatterns(t *testing.T) {
	reads(t, `a{2}|[^a-c\d]+x?`, alt(rep(2, 2, a), seq(rep(1, -1, set(0, '/', ':', '`', 'd', 0xD7FF, 0xE000, top)), rep(0, 1, one('x')))))
	reads(t, `((a|b)*c){2,3}|()`, alt(rep(2, 3, seq(rep(0, -1, alt(a, b)), c)), seq()))
	reads(t, `(\d{4}-\d\d-\d\d(T.*)?|)`, alt(seq(rep(4, 4, set('0', '9')), one('-'), set('0', '9'), set('0', '9'), one('-'), set('0', '9'), set('0', '9'), rep(0, 1, seq(one('T'), rep(0, -1, dot())))), seq()))
	reads(t, `\/\*.*\*\/`, seq(one('/'), one('*'), rep(0, -1, dot()), one('*'), one('/')))
	reads(t, `é(€|𝄞+)?`, seq(one(0xE9), rep(0, 1, alt(one(0x20AC), rep(1, -1, one(0x1D11E))))))
}

// What is answered is the caller's own: to change one answer, or a list of it, changes no other one.
func TestAnswersAreNew(t *testing.T) {
	makers := []func() api.Re{rex.Any, func() api.Re { return rex.Quote("abab") }}
	for _, s := range []string{"..", "(a|b)(a|b)", `\d\d[a-c][^a-c]`, "a{2}a{2}", "((ab|)*|.)+", "()()", "[a][a]"} {
		makers = append(makers, func() api.Re { return parsed(t, s) })
	}
	for i, make := range makers {
		want := clone(make())
		for n := range lists(want) {
			r := make()
			spoil(&r, n)
			if got := lists(r); got != lists(want) {
				t.Fatalf("%d: %d lists, not %d", i, got, lists(want))
			}
			if wrong := differing(r, want); wrong > 1 {
				t.Errorf("%d: to change list %d changes %d", i, n, wrong)
			}
			if !same(make(), want) {
				t.Errorf("%d: the next answer is changed", i)
			}
		}
	}
}

// lists is how many lists that are not empty a pattern has.
func lists(r api.Re) int {
	n := min(len(r.Set), 1) + min(len(r.L), 1)
	for _, part := range r.L {
		n += lists(part)
	}
	return n
}

// spoil changes list n, and what lies behind its end.
func spoil(r *api.Re, n int) int {
	if len(r.Set) > 0 {
		if n == 0 {
			r.Set[0].Lo--
			_ = append(r.Set, slices.Repeat([]api.Range{{Lo: -7, Hi: -7}}, 8)...)
		}
		n--
	}
	if len(r.L) > 0 {
		if n == 0 {
			r.L[0].Min += 70
			_ = append(r.L, copies(8, api.Re{Kind: -7})...)
		}
		n--
	}
	for i := range r.L {
		n = spoil(&r.L[i], n)
	}
	return n
}

// differing is how many patterns within two of one shape are not the same in themselves.
func differing(x, y api.Re) int {
	n := 0
	if x.Kind != y.Kind || x.Min != y.Min || x.Max != y.Max || !slices.Equal(x.Set, y.Set) {
		n++
	}
	for i := range x.L {
		n += differing(x.L[i], y.L[i])
	}
	return n
}
