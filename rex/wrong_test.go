package rex_test

import (
	"regexp"
	"strconv"
	"strings"
	"testing"
	"unicode/utf8"

	"entrepot/api"
	"entrepot/rex"
)

// Promise 10.1: what is no pattern, and what is too much of one.

// wrongs is no pattern, and none can come of it by what stands ahead of it or behind it.
var wrongs = []string{
	"(", "((", "(a", "a(b", "(a|", "(()", "[", "[a", "[^", "[^a", "[a-", "[a-b", `[\`, `[\]`, `[a\]`, "[]", "[^]", // not closed, or empty
	"**", "*+", "+*", "??", "a**", "a*+", "a+*", "a+?", "a*?", "a??", "a{2}*", "a*{2}", "a{2}{3}", "a{2}?", "(a*)**", "[a]++", // two repeats
	"(*", "(+a)", "(?", "(?:a)", "(?i)a", "({2})", "|*", "a|*b", "a|{2}", "(a|+)", "(|?)", // of nothing
	`\a`, `\w`, `\s`, `\D`, `\b`, `\r`, `\x41`, `\u0041`, `\0`, `\1`, `\N`, `\T`, `\ `, `\"`, `\'`, `\,`, `\_`, `\=`, `\<`, `\é`, `\pL`, `\Qa`, "\\\n", "\\\t", "\\\x00",
	`[\a]`, `[\w]`, `[\s]`, `[\D]`, `[\r]`, `[\x41]`, `[\0]`, `[\ ]`, `[\"]`, `[\,]`, `[\é]`, "[\\\n]",
	"[b-a]", "[ac-b]", "[^b-a]", "[z-a]", "[1-0]", "[é-a]", "[€-é]", "[𝄞-€]", "[\U0010FFFF-\x00]", "[\uE000-\uD7FF]", `[\n-\t]`, `[\]-\[]`, `[a-\n]`, // it falls
	`[\d-z]`, `[\d-\d]`, `[0-\d]`, `[a-\d]`, `[\--\d]`, `[^\d-z]`, `[^0-\d]`, // \d as an end
	"[-]", "[-a]", "[a-]", "[^-]", "[^-a]", "[^a-]", "[a-b-c]", "[a-b-]", "[--a]", "[a--]", "[a--b]", "[--]", "[---]", "[+--]", `[\d-]`, `[-\d]`, "[a-c-e-g]", // a - where none may stand
	"[a^]", "[^^]", "[^a^]", "[a-^]", "[^-a]", "[[]", "[a[]", "[a-[]", "[[-a]", "[[:alpha:]]", "[[a]]", "[a]]", // a sign of a class
	"a{}", "a{,}", "a{,2}", "a{ }", "a{a}", "a{-1}", "a{+1}", "a{1 }", "a{ 1}", "a{1,a}", "a{1,-1}", "a{1, 2}", "a{1;2}", "a{1.0}", "a{1e1}", "a{1,2,3}", "a{1,,2}", "a{1,2,}", "a{{1}}", "a{٣}", "a{é}",
	"a{1000}", "a{0000}", "a{0001}", "a{1000,}", "a{0,1000}", "a{0,0001}", "a{99999999999999999999}", "a{1,18446744073709551617}", // four digits and more
	"a{(", "a{1(", "a{1,(", "a{1,2(", "a{1,2)", "a{1,2]",
	"^", "$", "^a", "a$", "^a$", "a^", "a|^", "(^)", "a$b", "^*", "${2}",
	"a}", "a]", "a{2}}", "a[b]]", "}a", "]a", "a]b", "{a}", "(})", "(])", // not opened
	"\x80", "\xBF", "\xFF", "\xC0\x80", "\xC3(", "\xE2\x82(", "\xED\xA0\x80", "\xED\xBF\xBF", "\xF0\x80\x80\x80", "\xF4\x90\x80\x80", "\xF5", "a\xFFb", "(\xFF)", "[\xFF]", "[a-\xFF]", "[\xC3-\xFF]", "[^\xED\xA0\x80]", "\\\xFF", "[\\\xFF]", "a{\xFF}", "a{1\xFF}", "a*\xFF",
}

func TestNoPatterns(t *testing.T) {
	for _, s := range wrongs {
		for _, w := range []string{s, "a" + s, "é|" + s, "()" + s, s + "é", s + "|b", "(" + s + ")", `\\` + s, "[a]" + s} {
			fails(t, w, api.ErrSyntax)
		}
	}
	for _, s := range []string{")", "a)", "a)(b", ")(", "())", "a)b", "|)", "(a))", "*", "+", "?", "*a", "+a", "?a", "{", "{2}", "{2}a", "{,}", "}", "]", `\`, `a\`, `\\\`, `(a\`, `[a]\`, "a{", "a{1", "a{1,", "a{1,2", "a{12", "a{123", "(a{1}", "(\\)", "a|b)"} {
		fails(t, s, api.ErrSyntax)
	}
}

// excesses is too much by what 10.1 lets be, each in its form a pattern.
var excesses = []string{
	"a{21}", "a{21,}", "a{0,21}", "a{20,21}", "a{21,21}", "a{021}", "a{99}", "a{100}", "a{999}", "a{999,}", "a{0,999}", "a{999,999}", "(a{21})", "(a|b{0,21})*", "(){21}", "(a{21}){0}",
	"a{3,2}", "a{1,0}", "a{20,0}", "a{20,19}", "a{10,9}", "a{003,2}", "a{3,002}", "a{999,1}", "a{1,0}b", "(a{3,2})", "(){1,0}", "(a{3,2}){0}",
	strings.Repeat("a", 200), strings.Repeat("a|", 199) + "a", strings.Repeat("|", 199), strings.Repeat("()", 200), "(a{20}){20}", "(a{20}){10}", "((a{20}){20}){20}", "(((a{20}){20}){20}){0}", "(aaaaaaaaa){20}", "(aaaaaaaaa){20,}", strings.Repeat("a*", 100), strings.Repeat("é", 200),
	within(14, "a"), within(15, "a"), within(16, "a"), within(17, "a"), within(100, "a"), within(133, ""), within(14, "") + "a",
}

func TestTooMuch(t *testing.T) {
	for _, s := range excesses {
		if len(s) > 400 {
			t.Fatalf("%s is too long", brief(s))
		}
		fails(t, s, api.ErrLimit)
	}
	for _, s := range excesses[:30] {
		for _, w := range []string{"(" + s + ")", s + "|", "|" + s, "a" + s, s + "a{0}", "(" + s + ")?", "a{20}" + s, s + s, s + "a{21}", "a{3,2}|" + s} {
			fails(t, w, api.ErrLimit)
		}
	}
}

// What is no pattern is told ahead of what is too much, wherever it stands.
func TestNoPatternAheadOfTooMuch(t *testing.T) {
	told := func(s string) {
		if len(s) <= 400 {
			fails(t, s, api.ErrSyntax)
		} else {
			fails(t, s, api.ErrLimit)
		}
	}
	for _, much := range excesses {
		for _, s := range wrongs {
			told(much + s)
			told(much + "|" + s)
			told(s + "|" + much)
		}
		for _, s := range []string{")", "(", "]", "[", "^", `\`, "\xFF", "|*", "|{", "}"} {
			told(much + s)
		}
	}
	fails(t, "a{3,2}(", api.ErrSyntax)
	fails(t, "(a{21}", api.ErrSyntax)
	fails(t, "a{21}{1}", api.ErrSyntax)
	fails(t, "a{21,1000}", api.ErrSyntax)
	fails(t, "a{3,2,1}", api.ErrSyntax)
}

func TestMostBytes(t *testing.T) {
	reads(t, "["+strings.Repeat("a", 398)+"]", a)
	reads(t, "["+strings.Repeat("é", 199)+"]", one(0xE9))
	reads(t, strings.Repeat("(", 199)+"ab"+strings.Repeat(")", 199), seq(a, b))
	reads(t, strings.Repeat("𝄞", 100), word(strings.Repeat("𝄞", 100)))
	reads(t, strings.Repeat("[ac]", 100), seq(copies(100, set('a', 'a', 'c', 'c'))...))
	fails(t, strings.Repeat("a", 400), api.ErrLimit)
	fails(t, strings.Repeat("(", 400), api.ErrSyntax)
	fails(t, "["+strings.Repeat("a", 399), api.ErrSyntax)
	fails(t, strings.Repeat("\xFF", 400), api.ErrSyntax)
	for _, s := range []string{"", "a", "(", ")", "[", "\xFF", "a**", "^", "a{21}", "a{3,2}", "[b-a]", strings.Repeat("(", 200)} {
		for _, n := range []int{401, 402, 1000, 1 << 20} {
			fails(t, s+strings.Repeat("a", n-len(s)), api.ErrLimit)
			fails(t, strings.Repeat("(", n-len(s))+s, api.ErrLimit)
		}
	}
	fails(t, "["+strings.Repeat("a", 399)+"]", api.ErrLimit)
	fails(t, strings.Repeat("𝄞", 100)+"a", api.ErrLimit)
	fails(t, strings.Repeat("\xFF", 401), api.ErrLimit)
}

func TestMostSize(t *testing.T) {
	for s, size := range map[string]int{
		strings.Repeat("a", 198): 199, strings.Repeat("a", 199): 200, strings.Repeat("a", 200): 201, strings.Repeat("é", 199): 200, strings.Repeat("é", 200): 201,
		strings.Repeat("a|", 198) + "a": 200, strings.Repeat("a|", 199) + "a": 201, strings.Repeat("a*", 99): 199, strings.Repeat("a*", 99) + "b": 200, strings.Repeat("a*", 100): 201,
		"(a{9}){19}b{7}": 200, "(a{9}){19}b{8}": 201, "(a{8}){20}b{17}": 200, "(a{8}){20}b{18}": 201, "(a{8}){20}b{17,}": 201, "(a{8}){20}b{16,}": 200, "(aaaaaaaa){20}": 181, "(a{9}){20}": 201, "(a{9}){19,}": 201, "(a{9}){18,}": 191, "(a{9}){0,20}": 201, "(a{9}){0,19}": 191,
		"(a{20}){9}": 190, "(a{20}){10}": 211, "(((((((a{2}){2}){2}){2}){2}){2})){1}": 128, "((((((a{2}){2}){2}){2}){2}){2}){2}": 255, strings.Repeat("()", 199): 200, strings.Repeat("()", 200): 201, "(a{20}){0}" + strings.Repeat("b", 177): 200, "(a{20}){0}" + strings.Repeat("b", 178): 201,
	} {
		if size > 200 {
			fails(t, s, api.ErrLimit)
		} else {
			sized(t, parsed(t, s), size)
		}
	}
}

func TestDeepest(t *testing.T) {
	reads(t, within(12, "a"), nested(12, a))
	reads(t, within(13, "a"), nested(13, a))
	fails(t, within(14, "a"), api.ErrLimit)
	reads(t, within(13, ""), nested(13, seq()))
	fails(t, within(14, ""), api.ErrLimit)
	reads(t, within(12, "ab"), nested(12, seq(a, b)))
	fails(t, within(13, "ab"), api.ErrLimit)
	reads(t, within(12, "|"), nested(12, alt(seq(), seq())))
	fails(t, within(13, "a|"), api.ErrLimit)
	reads(t, "b|"+within(12, "a"), alt(b, nested(12, a)))
	fails(t, "b|"+within(13, "a"), api.ErrLimit)
	fails(t, within(13, "a")+"b", api.ErrLimit)
	reads(t, within(12, "a")+"b", seq(nested(12, a), b))
	for n := range 16 {
		want := api.OK
		if n > 13 {
			want = api.ErrLimit
		}
		ends(t, strings.Repeat("(", n)+"a"+strings.Repeat("b)", n), want)
		ends(t, strings.Repeat("(", n)+"a"+strings.Repeat("|b)", n), want)
		ends(t, strings.Repeat("(b|", n)+"a"+strings.Repeat(")", n), want)
		ends(t, strings.Repeat("b(", n)+"a"+strings.Repeat(")", n), want)
		ends(t, strings.Repeat("(", n)+"a"+strings.Repeat("){0}", n), want)
		ends(t, strings.Repeat("(((", n)+"[^a]"+strings.Repeat(")))*", n), want)
	}
}

// A second reader of the form: signs are told apart by the library, then groups are made atoms from within.
var (
	lexes  = regexp.MustCompile(`^(?s:(?P<atom>` + atomForm + `)|(?P<repeat>[*+?]|\{([0-9]{1,3})(,([0-9]{1,3})?)?\})|(?P<sign>[()|]))`)
	group  = regexp.MustCompile(`\((AR?|\|)*\)`)
	whole  = regexp.MustCompile(`^(AR?|\|)*$`)
	ranged = regexp.MustCompile(`^(?s:` + pointForm + `-` + pointForm + `)`)
)

const (
	pointForm = `(?:[^\\\[\]^-]|\\[\\.\[\](){}*+?|^$/nt-])`
	atomForm  = `[^\\.\[\](){}*+?|^$]|\\[\\.\[\](){}*+?|^$/dnt-]|\.|\[\^?(?:` + pointForm + `-` + pointForm + `|` + pointForm + `|\\d)+\]`
)

// formed is what a text of at most 400 bytes is by its form and its numbers alone.
func formed(s string) int {
	if !utf8.ValidString(s) {
		return api.ErrSyntax
	}
	word, much := "", false
	for s != "" {
		m := lexes.FindStringSubmatch(s)
		if m == nil || strings.HasPrefix(m[1], "[") && falls(m[1]) {
			return api.ErrSyntax
		}
		switch {
		case m[1] != "":
			word += "A"
		case m[2] != "":
			word += "R"
			least, _ := strconv.Atoi(m[3])
			most, err := strconv.Atoi(m[5])
			much = much || least > 20 || err == nil && (most > 20 || most < least)
		default:
			word += m[6]
		}
		s = s[len(m[0]):]
	}
	for group.MatchString(word) {
		word = group.ReplaceAllString(word, "A")
	}
	switch {
	case !whole.MatchString(word):
		return api.ErrSyntax
	case much:
		return api.ErrLimit
	}
	return api.OK
}

// falls is whether a range of a class does.
func falls(class string) bool {
	meant := func(s string) rune {
		switch s {
		case `\n`:
			return '\n'
		case `\t`:
			return '\t'
		}
		r, _ := utf8.DecodeRuneInString(strings.TrimPrefix(s, `\`))
		if s == `\` {
			r = '\\'
		}
		return r
	}
	body := strings.TrimPrefix(class[1:len(class)-1], "^")
	for body != "" {
		if m := ranged.FindString(body); m != "" {
			size := len(pointAt(m))
			if meant(m[:size]) > meant(m[size+1:]) {
				return true
			}
			body = body[len(m):]
			continue
		}
		body = body[len(pointAt(body)):]
	}
	return false
}

// pointAt is the bytes of what stands first in a class.
func pointAt(s string) string {
	escape := 0
	if s[0] == '\\' {
		escape = 1
	}
	_, size := utf8.DecodeRuneInString(s[escape:])
	return s[:escape+size]
}

// gone goes through all texts of at most n of some pieces.
func gone(n int, pieces []string, s string, visit func(string)) {
	visit(s)
	for _, p := range pieces {
		if n > 0 {
			gone(n-1, pieces, s+p, visit)
		}
	}
}

func TestFormOfAllShortTexts(t *testing.T) {
	hold := func(s string) { ends(t, s, formed(s)) }
	gone(3, strings.Split("a|b|-|^|$|\\|(|)|[|]|{|}|0|1|2|,|*|+|?|.|d|n|t|/|é|\n|\xFF|\xC3", "|"), "", hold)
	gone(4, strings.Split(`a \ ( ) [ ] ^ - { } 1 2 , * | .`, " "), "", hold)
	gone(6, strings.Split("( ) a | *", " "), "", hold)
	gone(5, strings.Split(`a z - \ ] ^ d`, " "), "[", hold)
	gone(4, strings.Split(`a ] \] \- - \d \n [a`, " "), "[a", hold)
	gone(5, strings.Split(`0 1 3 , }`, " "), "a{", hold)
	gone(4, strings.Split(`( ) | {2} {3,2} {21} ab \d [a-c] [^a]`, " "), "", hold)
}

// What is read matches, what is wrong comes to one error: whatever bytes there are.
func TestEndsOfMutatedTexts(t *testing.T) {
	seeds := []string{`a{2}|[^a-c\d]+x?`, `((a|b)*c){2,3}|()`, `\/\*.*\*\/`, `[\--\/]{0,20}é(€|𝄞+)?`, "[^\x00-\U0010FFFF]|[\uD7FF-\uE000]", `\d{4}-\d\d(T[^\n\t]*)?`, within(13, "a{20}")}
	bytes := `ab\.[](){}*+?|^$-/0129,dnt` + "\x00\x7F\x80\xC3\xE9\xED\xF0\xFF"
	for _, seed := range seeds {
		for at := range len(seed) {
			hold := func(s string) {
				if want := formed(s); want == api.ErrSyntax {
					fails(t, s, want)
				} else if r, err := rex.Parse(s); err != api.ErrLimit {
					ends(t, s, want)
					comesBack(t, r)
				}
			}
			hold(seed[:at])
			hold(seed[at:])
			hold(seed[:at] + seed[at+1:])
			for i := range len(bytes) {
				hold(seed[:at] + bytes[i:i+1] + seed[at:])
				hold(seed[:at] + bytes[i:i+1] + seed[at+1:])
			}
		}
	}
}
