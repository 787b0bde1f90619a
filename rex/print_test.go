package rex_test

import (
	"math/rand"
	"slices"
	"strings"
	"testing"

	"entrepot/api"
	"entrepot/rex"
)

// Promise 10.2: Print; promise 10.3: Parse of Print matches the same texts. It is held to more: the same pattern is read.

func TestPrint(t *testing.T) {
	for _, s := range []string{ // the shortest way in which their patterns are written, but for \\n and \\t
		"", "a", "ab", "a|b", "a|", "|", "|a", "a()", "(ab)c", "a(b|c)", "(a|b)|c", "a*", "a+", "a?", "a{2}", "a{2,}", "a{2,3}", "a{0}", "a{1}", "a{0,2}", "(ab)*", "(a*)*", "()*", "(a|b){2}", "(|)*", ".", ".*", `\d`, `\n`, `\t`, `\\`, `\.`, `\(`, `\)`, `\[`, `\]`, `\{`, `\}`, `\*`, `\+`, `\?`, `\|`, `\^`, `\$`, "-", "/", "é", "𝄞",
		"[ab]", "[a-c]", "[ac]", `[\da-f]`, "[^a]", "[^a-c]", `[^\d]`, `[^\n]`, `[\]x]`, `[\-\\\^]`, `[(*.]`, "[é-€𝄞]", "[^\x00-\U0010FFFF]", "[^é]", "[\uD7FF\uE000]", "[\uD7FE-\uE000]",
	} {
		if got, err := rex.Print(parsed(t, s)); err != api.OK || got != s {
			t.Errorf("Print of %s: %s, %d", brief(s), brief(got), err)
		}
	}
	for _, r := range rights() {
		if s, err := rex.Print(r); err == api.OK {
			reads(t, s, r)
		} else if err != api.ErrLimit || rex.Size(r) < 150 {
			t.Errorf("Print(%s): %d", show(r), err)
		}
	}
}

func TestPrintOfWhatMayNotBe(t *testing.T) {
	for _, r := range bads() {
		refuses(t, r, api.ErrArg)
	}
	refuses(t, api.Re{}, api.ErrArg)
	refuses(t, seq(copies(200, a)...), api.ErrArg)
	refuses(t, seq(copies(200, one(0x1D11E))...), api.ErrArg)
	refuses(t, nested(16, a), api.ErrArg)
	refuses(t, alt(nested(16, a), word(strings.Repeat("𝄞", 101))), api.ErrArg)
}

func TestPrintOfDepth(t *testing.T) {
	for n := range 16 {
		for _, r := range []api.Re{nested(n, a), nested(n, seq()), nested(n, set()), nested(n, dot())} {
			if n < 14 {
				comesBack(t, r)
			} else {
				refuses(t, r, api.ErrLimit)
			}
		}
	}
	comesBack(t, alt(b, nested(12, a), seq()))
	refuses(t, alt(b, nested(13, a), seq()), api.ErrLimit)
	comesBack(t, seq(nested(12, a), b))
	refuses(t, seq(nested(13, a), b), api.ErrLimit)
	refuses(t, seq(nested(14, a), b), api.ErrLimit)
}

func TestPrintOfMostBytes(t *testing.T) {
	comesBack(t, word(strings.Repeat("𝄞", 100)))
	refuses(t, word(strings.Repeat("𝄞", 100)+"a"), api.ErrLimit)
	refuses(t, word(strings.Repeat("𝄞", 199)), api.ErrLimit)
	comesBack(t, word(strings.Repeat("é", 199)))
	comesBack(t, word(strings.Repeat(".", 199)))
	comesBack(t, word(strings.Repeat("€", 133)+"a"))
	refuses(t, word(strings.Repeat("€", 133)+"é"), api.ErrLimit)
	comesBack(t, seq(word(strings.Repeat("𝄞", 98)), seq(one('.'), seq())))
	refuses(t, seq(word(strings.Repeat("𝄞", 99)), rep(2, 3, a)), api.ErrLimit)
	wide := set()
	for i := range 400 {
		wide.Set = append(wide.Set, api.Range{Lo: 0x4E00 + 2*i, Hi: 0x4E00 + 2*i})
	}
	refuses(t, wide, api.ErrLimit)
	wide.Set = wide.Set[:132]
	comesBack(t, wide) // 398 bytes
	wide.Set = wide.Set[:133]
	refuses(t, wide, api.ErrLimit) // 401
}

// Whatever Parse reads can be printed in as many bytes.
func TestPrintOfWhatIsRead(t *testing.T) {
	for _, s := range []string{
		strings.Repeat("[^a]", 100), strings.Repeat("[^é]", 80), strings.Repeat("[\n\t]", 100), strings.Repeat("[^\n\t]", 80), strings.Repeat("𝄞", 80) + strings.Repeat("\n", 80), strings.Repeat("𝄞\t", 80), strings.Repeat("[\t-\r]", 80), strings.Repeat(`[\d]`, 100), strings.Repeat(`[^\d]`, 80), strings.Repeat("[\uD7FF-\uE001]", 44), strings.Repeat("[^\x00-\U0010FFFF]", 44), strings.Repeat("[^\uD7FF\uE000]", 44), strings.Repeat("[a-c]", 80), strings.Repeat("[^x-z]", 66), strings.Repeat(`[\[-\]]`, 57), strings.Repeat("a{2}", 66), strings.Repeat("a{00}", 80), strings.Repeat("(a|)?", 40), strings.Repeat("()", 199), strings.Repeat("|", 198), strings.Repeat(`\/`, 199), strings.Repeat("a{2,}", 49), strings.Repeat("(aa)", 49),
		"[" + strings.Repeat("\n", 398) + "]", "[^" + strings.Repeat("é", 198) + "]", within(11, strings.Repeat(".*", 90)), "(" + strings.Repeat("\n𝄞", 79) + ")",
	} {
		r := parsed(t, s)
		comesBack(t, r)
		if text, _ := rex.Print(r); len(text) > 400 {
			t.Errorf("Print of %s has %d bytes", brief(s), len(text))
		}
	}
	var list []string
	gone(3, strings.Split("a ( ) | * + ? {0} {1} {2,} {0,2} . \\d \\n \n [\t] [\n-a] [^\n] [ab] [^a-c] (ab) () [\\d] [^0-9] [\uD7FF-\uE000]", " "), "", func(s string) { list = append(list, s) })
	gone(4, strings.Split(`a b c e - \- \\ \] 0 9 \d`, " "), "[", func(s string) { list = append(list, s+"]", "[^"+s[1:]+"]") })
	for _, s := range list {
		r, err := rex.Parse(s)
		if err != api.OK {
			continue
		}
		comesBack(t, r)
		if text, _ := rex.Print(r); len(text) > len(strings.NewReplacer("\n", `\n`, "\t", `\t`).Replace(s)) {
			t.Fatalf("Print of %s is %s", brief(s), brief(text))
		}
	}
}

// Sets of code points beside all signs, the digits, the surrogates and the ends.
func TestPrintOfSets(t *testing.T) {
	edges := []int{0, 1, 8, 9, 10, 11, 13, ' ', '$', '(', ')', '*', '+', ',', '-', '.', '/', '0', '1', '8', '9', ':', '?', 'Z', '[', '\\', ']', '^', '_', 'a', 'd', 'n', 't', 'z', '{', '|', '}', 126, 127, 128, 129, 0x7FF, 0x800, 0xD7FE, 0xD7FF, 0xE000, 0xE001, 0xFFFF, 0x10000, top - 1, top}
	for i, x := range edges {
		comesBack(t, one(x))
		for j := i + 1; j < len(edges); j++ {
			y := edges[j]
			pair, span := []api.Re{one(x), one(y)}, []api.Re{set(x, y)}
			if y == x+1 {
				pair = span
			}
			if x <= 0xD7FF && y >= 0xE000 {
				span = []api.Re{set(x, 0xD7FF), set(0xE000, y)}
			}
			comesBack(t, together(pair))
			comesBack(t, together(span))
			comesBack(t, without(together(pair)))
			comesBack(t, without(together(span)))
		}
	}
	random := rand.New(rand.NewSource(11))
	for range 3000 {
		r := set()
		for at := random.Intn(len(edges)); at < len(edges); at += 1 + random.Intn(6) {
			c := edges[at]
			if n := len(r.Set); n > 0 && r.Set[n-1].Hi+1 >= c {
				continue
			}
			hi := c
			if k := at + random.Intn(3); k < len(edges) && (c > 0xDFFF || edges[k] < 0xD800) {
				at, hi = k, edges[k]
			}
			r.Set = append(r.Set, api.Range{Lo: c, Hi: hi})
		}
		comesBack(t, r)
		comesBack(t, without(r))
		comesBack(t, seq(r, rep(0, -1, without(r))))
	}
}

// together is one set of sets that rise.
func together(l []api.Re) api.Re {
	out := set()
	for _, r := range l {
		out.Set = append(out.Set, r.Set...)
	}
	return out
}

// without is all other code points.
func without(r api.Re) api.Re {
	taken := append(slices.Clone(r.Set), api.Range{Lo: 0xD800, Hi: 0xDFFF}, api.Range{Lo: top + 1})
	slices.SortFunc(taken, func(x, y api.Range) int { return x.Lo - y.Lo })
	out, from := set(), 0
	for _, x := range taken {
		if from < x.Lo {
			out.Set = append(out.Set, api.Range{Lo: from, Hi: x.Lo - 1})
		}
		from = x.Hi + 1
	}
	return out
}

// Promise 10.3, by texts: what is printed is read by the library, too.
func TestPrintedMatchesTheSame(t *testing.T) {
	random := rand.New(rand.NewSource(12))
	list := append(texts(3, "a", "b", "\n"), "é", "éa", "\u0080", "𝄞", "0", "9a", "-", "]", `\`, "^", "aaaa", "abab")
	for range 2000 {
		r := built(random, 4)
		if rex.Size(r) > 200 {
			continue
		}
		text, err := rex.Print(r)
		if err != api.OK {
			t.Fatalf("Print(%s): %d", show(r), err)
		}
		back, library := parsed(t, text), told(text)
		for _, s := range list {
			want := rex.Match(r, s)
			if rex.Match(back, s) != want || library.MatchString(s) != want {
				t.Fatalf("Print(%s) = %s at %s", show(r), brief(text), brief(s))
			}
		}
	}
}
