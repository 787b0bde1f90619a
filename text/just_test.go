package text_test

import (
	"strings"
	"testing"

	"entrepot/api"
	"entrepot/rex"
	"entrepot/text"
)

// Promise 12.1: Just.

// justs holds Just against one pattern that matches one text alone.
func justs(t *testing.T, s, want string, others ...string) {
	t.Helper()
	x := text.Just(s)
	if !same(x, of(want)) || !same(text.Just(s), x) {
		t.Errorf("Just(%s) = %s, not %s", brief(s), show(x), brief(want))
	}
	if printed, err := rex.Print(rex.Quote(s)); err != api.OK || printed != want {
		t.Errorf("Just(%s): printed is %s", brief(s), brief(printed))
	}
	may(t, x, true)
	has(t, x, s, true)
	for _, other := range append(others, s+"a", "a"+s, s+"\x00", s+s+"b", "b"+s, s+"\xFF", "\xFF") {
		has(t, x, other, false)
	}
	if s != "" {
		has(t, x, "", false)
		has(t, x, s+s, false)
	}
	found := tells(t, []api.Texts{x}, nil, plenty, api.Yes)
	if found != s {
		t.Errorf("Find of Just(%s): %s", brief(s), brief(found))
	}
	tells(t, nil, []api.Texts{x}, plenty, api.Yes)
	tells(t, []api.Texts{of(".*")}, []api.Texts{x, sized(0, len(s)+5), sized(len(s)+7, -1)}, plenty, api.Yes)
}

// justsNone holds Just against no text.
func justsNone(t *testing.T, s string) {
	t.Helper()
	x := text.Just(s)
	if len(x.Res) != 0 || x.Size != (api.Size{Min: 1, Max: 0}) || !same(text.Just(s), x) {
		t.Errorf("Just(%s) = %s", brief(s), show(x))
	}
	may(t, x, true)
	for _, other := range []string{s, "", "a", "aa", "\uFFFD"} {
		has(t, x, other, false)
	}
	tells(t, []api.Texts{x}, nil, plenty, api.No)
}

func TestJust(t *testing.T) {
	justs(t, "", "", "a", " ", "\n", "()")
	justs(t, "a", "a", "b", "A")
	justs(t, "abc", "abc", "ab", "ac", "acb", "abd")
	justs(t, "a.b", `a\.b`, "axb", "a\nb", `a\.b`, "ab")
	justs(t, "-/=,:;'\"<>@#%&~`_ ", "-/=,:;'\"<>@#%&~`_ ")
	justs(t, "a{2}", `a\{2\}`, "aa", "a")
	justs(t, "[a-c]", `\[a-c\]`, "a", "b")
	justs(t, "(a|b)*", `\(a\|b\)\*`, "", "a", "ab")
	justs(t, "()", `\(\)`, "")
	justs(t, `\`, `\\`, "", `\\`)
	justs(t, `\d\n`, `\\d\\n`, "1\n", "5\n")
	justs(t, "^a$", `\^a\$`, "a")
	justs(t, "a+?", `a\+\?`, "a", "aa", "")
	for _, sign := range strings.Split(`\ . [ ] ( ) { } * + ? | ^ $`, " ") {
		justs(t, sign, `\`+sign, "x")
		justs(t, "a"+sign+"b", `a\`+sign+"b", "ab", "aab", "axb")
	}
}

func TestJustBeyondLetters(t *testing.T) {
	justs(t, "é", "é", "e", "E", "e\u0301", "É")
	justs(t, "e\u0301", "e\u0301", "é", "e")
	justs(t, "€𝄞\U0010FFFF", "€𝄞\U0010FFFF", "€𝄞", "€𝄞\uFFFD")
	justs(t, "\x00", "\x00", "\x01", " ")
	justs(t, "\uFFFD", "\uFFFD", "\xFF", "\uFFFE")
	justs(t, "\uD7FF\uE000", "\uD7FF\uE000")
	justs(t, "\r\x7F\u0085\u2028\uFEFF", "\r\x7F\u0085\u2028\uFEFF")
	justs(t, "\n", `\n`, " ", "n", `\n`)
	justs(t, "a\n\tb", `a\n\tb`, "ab", "a b", "a\n b")
	justs(t, "\n\n", `\n\n`, "\n", "\n\n\n")
}

// 199 code points, and 400 bytes of the pattern, can be said.
func TestJustOfTheLongest(t *testing.T) {
	for _, c := range []string{"a", "é", ".", "\n", `\`, "[", "\x00"} {
		quoted := text.Just(c).Res[0]
		justs(t, strings.Repeat(c, 198), strings.Repeat(quoted, 198))
		justs(t, strings.Repeat(c, 199), bare(strings.Repeat(quoted, 199)), strings.Repeat(c, 198), strings.Repeat(c, 200))
		for _, n := range []int{200, 201, 399, 400, 401, 1000, 4096, 4097} {
			justsNone(t, strings.Repeat(c, n))
		}
		justsNone(t, strings.Repeat(c, 199)+"b")
		justsNone(t, "𝄞"+strings.Repeat(c, 199))
	}
	justs(t, strings.Repeat("€", 133), strings.Repeat("€", 133))
	justs(t, strings.Repeat("€", 133)+"a", strings.Repeat("€", 133)+"a") // 400 bytes
	justsNone(t, strings.Repeat("€", 133)+"ab")
	justsNone(t, strings.Repeat("€", 133)+".")
	justsNone(t, strings.Repeat("€", 134))
	justs(t, strings.Repeat("𝄞", 100), strings.Repeat("𝄞", 100))
	justsNone(t, strings.Repeat("𝄞", 100)+"a")
	justsNone(t, strings.Repeat("𝄞", 101))
	justs(t, strings.Repeat("é", 196)+"..a", strings.Repeat("é", 196)+`\.\.a`)
	justsNone(t, strings.Repeat("é", 197)+"..a") // 200 code points, of 399 bytes
}

func TestJustOfVeryLong(t *testing.T) {
	justsNone(t, strings.Repeat("a", 1<<20))
	justsNone(t, strings.Repeat("𝄞", 1<<20))
	justsNone(t, strings.Repeat("\xFF", 1<<20))
	if x := text.Just(strings.Repeat("é", 1<<24)); len(x.Res) != 0 || x.Size != (api.Size{Min: 1}) {
		t.Errorf("%s", show(x))
	}
}

func TestJustOfNotValid(t *testing.T) {
	for _, s := range []string{"\xFF", "\x80", "\xC3", "\xC0\x80", "\xED\xA0\x80", "\xED\xBF\xBF", "\xE2\x82", "\xF4\x90\x80\x80", "\xF0\x9D\x84", "\xF8\x88\x80\x80\x80"} {
		for _, w := range []string{s, "a" + s, s + "a", "é" + s + "é", s + s, "\uFFFD" + s, strings.Repeat("a", 198) + s, strings.Repeat("a", 4095) + s} {
			justsNone(t, w)
		}
	}
}

// bare is a pattern's text as it is printed where it would else be too long.
func bare(s string) string {
	if len(s) > 400 {
		s = strings.ReplaceAll(s, `\n`, "\n")
	}
	return s
}
