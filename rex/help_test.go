package rex_test

import (
	"regexp"
	"slices"
	"strconv"
	"strings"
	"testing"

	"entrepot/api"
	"entrepot/rex"
)

const top = 0x10FFFF

// set is a ReSet of ranges, each by its two ends.
func set(ends ...int) api.Re {
	r := api.Re{Kind: api.ReSet}
	for i := 0; i < len(ends); i += 2 {
		r.Set = append(r.Set, api.Range{Lo: ends[i], Hi: ends[i+1]})
	}
	return r
}

func one(c int) api.Re       { return set(c, c) }
func dot() api.Re            { return set(0, 0xD7FF, 0xE000, top) }
func seq(l ...api.Re) api.Re { return api.Re{Kind: api.ReSeq, L: l} }
func alt(l ...api.Re) api.Re { return api.Re{Kind: api.ReAlt, L: l} }
func rep(least, most int, r api.Re) api.Re {
	return api.Re{Kind: api.ReRep, L: []api.Re{r}, Min: least, Max: most}
}

var (
	a = one('a')
	b = one('b')
	c = one('c')
)

// word is a sequence of a text's code points.
func word(s string) api.Re {
	var l []api.Re
	for _, c := range s {
		l = append(l, one(int(c)))
	}
	return seq(l...)
}

// copies is n times r.
func copies(n int, r api.Re) []api.Re {
	l := make([]api.Re, n)
	for i := range l {
		l[i] = r
	}
	return l
}

// nested is r within n repeats of 0 to 1 times.
func nested(n int, r api.Re) api.Re {
	for range n {
		r = rep(0, 1, r)
	}
	return r
}

// within is a pattern's text within n repeats.
func within(n int, s string) string {
	return strings.Repeat("(", n) + s + strings.Repeat(")?", n)
}

// same is whether all parts are; a nil list and an empty one are the same.
func same(x, y api.Re) bool {
	return x.Kind == y.Kind && x.Min == y.Min && x.Max == y.Max && slices.Equal(x.Set, y.Set) && slices.EqualFunc(x.L, y.L, same)
}

func clone(r api.Re) api.Re {
	r.Set = slices.Clone(r.Set)
	r.L = slices.Clone(r.L)
	for i := range r.L {
		r.L[i] = clone(r.L[i])
	}
	return r
}

// reads holds Parse against a pattern.
func reads(t *testing.T, s string, want api.Re) {
	t.Helper()
	r, err := rex.Parse(s)
	if err != api.OK || !same(r, want) {
		t.Errorf("Parse(%s) = %s, %d, not %s", brief(s), show(r), err, show(want))
	}
}

// fails holds Parse against an error.
func fails(t *testing.T, s string, want int) {
	t.Helper()
	r, err := rex.Parse(s)
	if err != want || !same(r, api.Re{}) {
		t.Errorf("Parse(%s) = %s, %d, not %d", brief(s), show(r), err, want)
	}
}

// ends holds Parse against an error, or 0, whatever the pattern is.
func ends(t *testing.T, s string, want int) {
	t.Helper()
	if want != api.OK {
		fails(t, s, want)
	} else if _, err := rex.Parse(s); err != api.OK {
		t.Errorf("Parse(%s): %d", brief(s), err)
	}
}

// parsed is a pattern that must be read.
func parsed(t *testing.T, s string) api.Re {
	t.Helper()
	r, err := rex.Parse(s)
	if err != api.OK {
		t.Fatalf("Parse(%s): %d", brief(s), err)
	}
	return r
}

// comesBack holds Parse of Print against the pattern, and so promise 10.3.
func comesBack(t *testing.T, r api.Re) {
	t.Helper()
	s, err := rex.Print(r)
	if err != api.OK || len(s) > 400 {
		t.Errorf("Print(%s) = %s, %d", show(r), brief(s), err)
		return
	}
	reads(t, s, r)
}

// refuses holds Print against an error.
func refuses(t *testing.T, r api.Re, want int) {
	t.Helper()
	if s, err := rex.Print(r); s != "" || err != want {
		t.Errorf("Print(%s) = %s, %d, not %d", show(r), brief(s), err, want)
	}
}

// mayNot holds that a pattern may not be, in all calls that ask it.
func mayNot(t *testing.T, r api.Re) {
	t.Helper()
	if rex.May(r) {
		t.Errorf("May(%s)", show(r))
	}
	for _, s := range []string{"", "a", "aa", "b", "\xFF"} {
		if rex.Match(r, s) {
			t.Errorf("Match(%s, %s)", show(r), brief(s))
		}
	}
	refuses(t, r, api.ErrArg)
	if n := rex.Size(r); n < 0 || n > 1000 {
		t.Errorf("Size(%s) = %d", show(r), n)
	}
}

func sized(t *testing.T, r api.Re, want int) {
	t.Helper()
	if n := rex.Size(r); n != want {
		t.Errorf("Size(%s) = %d, not %d", show(r), n, want)
	}
}

func matches(t *testing.T, r api.Re, s string, want bool) {
	t.Helper()
	if got := rex.Match(r, s); got != want {
		t.Errorf("Match(%s, %s) = %v", show(r), brief(s), got)
	}
}

// texts is all texts of at most n of some pieces.
func texts(n int, pieces ...string) []string {
	out := []string{""}
	for from := 0; n > 0; n-- {
		to := len(out)
		for _, s := range out[from:to] {
			for _, p := range pieces {
				out = append(out, s+p)
			}
		}
		from = to
	}
	return out
}

// told is the library's reading of a pattern.
func told(s string) *regexp.Regexp { return regexp.MustCompile(`\A(?s:` + s + `)\z`) }

// walked is where a match of r may end in a text that begins at one of from: found by going through all of it.
func walked(r api.Re, s []rune, from []int) []int {
	switch r.Kind {
	case api.ReSet:
		var out []int
		for _, at := range from {
			if at < len(s) && slices.ContainsFunc(r.Set, func(x api.Range) bool { return x.Lo <= int(s[at]) && int(s[at]) <= x.Hi }) {
				out = append(out, at+1)
			}
		}
		return out
	case api.ReSeq:
		for _, part := range r.L {
			from = walked(part, s, from)
		}
		return from
	case api.ReAlt:
		var out []int
		for _, part := range r.L {
			out = append(out, walked(part, s, from)...)
		}
		return settled(out)
	}
	var out []int
	for n := 0; n <= r.Min+len(s) || n <= r.Max; n++ { // what goes on behind so many goes on without reading
		if n >= r.Min && (r.Max == -1 || n <= r.Max) {
			out = append(out, from...)
		}
		from = walked(r.L[0], s, from)
	}
	return settled(out)
}

func settled(list []int) []int {
	slices.Sort(list)
	return slices.Compact(list)
}

func walksTo(r api.Re, s string) bool {
	text := []rune(s)
	return slices.Contains(walked(r, text, []int{0}), len(text))
}

// brief is a text that fits into a report.
func brief(s string) string {
	if len(s) > 120 {
		return strconv.QuoteToASCII(s[:60]) + ".." + strconv.QuoteToASCII(s[len(s)-30:]) + " of " + strconv.Itoa(len(s)) + " bytes"
	}
	return strconv.QuoteToASCII(s)
}

// show is a pattern that fits into a report, by its parts: what Print tells may be what is wrong.
func show(r api.Re) string { return shown(r, 6) }

func shown(r api.Re, levels int) string {
	if levels == 0 {
		return ".."
	}
	out := "{" + strconv.Itoa(r.Kind)
	for i, x := range r.Set {
		if i == 4 {
			out += " .. of " + strconv.Itoa(len(r.Set))
			break
		}
		out += " " + strconv.FormatInt(int64(x.Lo), 16) + "-" + strconv.FormatInt(int64(x.Hi), 16)
	}
	for i, part := range r.L {
		if i == 4 {
			out += " .. of " + strconv.Itoa(len(r.L))
			break
		}
		out += " " + shown(part, levels-1)
	}
	if r.Min != 0 || r.Max != 0 {
		out += " " + strconv.Itoa(r.Min) + "," + strconv.Itoa(r.Max)
	}
	return out + "}"
}
