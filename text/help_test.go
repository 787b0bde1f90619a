package text_test

import (
	"regexp"
	"slices"
	"strconv"
	"strings"
	"testing"
	"unicode/utf8"

	"entrepot/api"
	"entrepot/dfa"
	"entrepot/rex"
	"entrepot/text"
)

const (
	plenty = 1 << 20 // the fuel of promise 12.2
	wrong  = -1
)

func set(least, most int, res ...string) api.Texts {
	return api.Texts{Res: res, Size: api.Size{Min: least, Max: most}}
}

// of is a set of all counts.
func of(res ...string) api.Texts { return set(0, -1, res...) }

func sized(least, most int) api.Texts { return set(least, most) }

func sets(l ...api.Texts) []api.Texts { return l }

// copies is n times one.
func copies[T any](n int, one T) []T {
	l := make([]T, n)
	for i := range l {
		l[i] = one
	}
	return l
}

// unlike is n patterns, no two of which are the same text, that all match any text.
func unlike(n int) []string {
	var out []string
	for i := range n {
		out = append(out, strings.Repeat("(", i%4)+strings.Repeat(".*", 1+i/4)+strings.Repeat(")", i%4))
	}
	return out
}

// spread is patterns on as many sets as are needed, 8 on each.
func spread(res []string) []api.Texts {
	var out []api.Texts
	for l := range slices.Chunk(res, 8) {
		out = append(out, of(l...))
	}
	return out
}

func same(a, b api.Texts) bool { return slices.Equal(a.Res, b.Res) && a.Size == b.Size }

func clone(t api.Texts) api.Texts {
	t.Res = slices.Clone(t.Res)
	return t
}

func clones(l []api.Texts) []api.Texts {
	l = slices.Clone(l)
	for i := range l {
		l[i] = clone(l[i])
	}
	return l
}

// matchers keeps what the library makes of patterns.
var matchers = map[string]*regexp.Regexp{}

// matches is the library's way to match all of a text: the patterns of these tests mean the same there.
func matches(pattern, s string) bool {
	m, ok := matchers[pattern]
	if !ok {
		m = regexp.MustCompile(`(?s)\A(?:` + pattern + `)\z`)
		matchers[pattern] = m
	}
	return m.MatchString(s)
}

// holds is what Has must tell of a set that may be.
func holds(t api.Texts, s string) bool {
	n := utf8.RuneCountInString(s)
	if !utf8.ValidString(s) || n < t.Size.Min || t.Size.Max != -1 && n > t.Size.Max {
		return false
	}
	return !slices.ContainsFunc(t.Res, func(pattern string) bool { return !matches(pattern, s) })
}

// has holds Has against an answer, twice.
func has(t *testing.T, x api.Texts, s string, want bool) {
	t.Helper()
	given := clone(x)
	for range 2 {
		if got := text.Has(given, s); got != want {
			t.Errorf("Has(%s, %s): %v", show(x), brief(s), got)
		}
	}
	if !same(given, x) {
		t.Errorf("Has(%s, %s): changed", show(x), brief(s))
	}
}

// may holds May against an answer; of what may not be it holds Has and Meet, too.
func may(t *testing.T, x api.Texts, want bool) {
	t.Helper()
	given := clone(x)
	if text.May(given) != want || text.May(given) != want || !same(given, x) {
		t.Errorf("May(%s): %v", show(x), !want)
	}
	if want {
		return
	}
	for _, s := range []string{"", "a", "aa", "\xFF", "\n"} {
		has(t, x, s, false)
	}
	meetsNot(t, x, of())
	meetsNot(t, of(), x)
	meetsNot(t, x, x)
}

// meets holds Meet against an answer: it is the same again, shares nothing with what was handed in, and changes nothing.
func meets(t *testing.T, a, b, want api.Texts) {
	t.Helper()
	x, y := clone(a), clone(b)
	got, ok := text.Meet(x, y)
	if !ok || !same(got, want) {
		t.Errorf("Meet(%s, %s) = %s, %v, not %s", show(a), show(b), show(got), ok, show(want))
	}
	more := append(got.Res, "changed")
	for i := range more {
		more[i] = "changed"
	}
	if !same(x, a) || !same(y, b) {
		t.Errorf("Meet(%s, %s): changed", show(a), show(b))
	}
	got, _ = text.Meet(x, y)
	for i := range x.Res {
		x.Res[i] = "changed"
	}
	for i := range y.Res {
		y.Res[i] = "changed"
	}
	if !same(got, want) {
		t.Errorf("Meet(%s, %s) = %s, later", show(a), show(b), show(got))
	}
}

// meetsNot holds Meet against false, and nothing beside it.
func meetsNot(t *testing.T, a, b api.Texts) {
	t.Helper()
	x, y := clone(a), clone(b)
	if got, ok := text.Meet(x, y); ok || len(got.Res) != 0 || got.Size != (api.Size{}) || !same(x, a) || !same(y, b) {
		t.Errorf("Meet(%s, %s) = %s, %v", show(a), show(b), show(got), ok)
	}
}

// asked is what Find tells. It holds what is found against each set, what is told beside all else, that
// nothing handed in is changed, and that the same call tells the same again.
func asked(t *testing.T, all, none []api.Texts, fuel int) (string, int) {
	t.Helper()
	a, b := clones(all), clones(none)
	s, n := text.Find(a, b, fuel)
	if !slices.EqualFunc(a, all, same) || !slices.EqualFunc(b, none, same) {
		t.Errorf("%s: changed", shown(all, none))
	}
	if n == api.Yes && !such(all, none, s) || n != api.Yes && s != "" || n != api.Yes && n != api.No && n != api.Unknown && n != wrong {
		t.Errorf("%s: %s, %d", shown(all, none), brief(s), n)
	}
	if again, m := text.Find(a, b, fuel); again != s || m != n {
		t.Errorf("%s: %s, %d, and then %s, %d", shown(all, none), brief(s), n, brief(again), m)
	}
	return s, n
}

// such is whether a text is what Find may tell.
func such(all, none []api.Texts, s string) bool {
	if len(s) > api.MaxText || !utf8.ValidString(s) {
		return false
	}
	has := func(x api.Texts) bool { return text.Has(x, s) }
	return !slices.ContainsFunc(none, has) && !slices.ContainsFunc(all, func(x api.Texts) bool { return !has(x) })
}

// tells holds Find against api.Yes, No, Unknown or what is wrong.
func tells(t *testing.T, all, none []api.Texts, fuel, want int) string {
	t.Helper()
	s, n := asked(t, all, none, fuel)
	if n != want {
		t.Errorf("%s with fuel %d: %s, %d, not %d", shown(all, none), fuel, brief(s), n, want)
	}
	return s
}

// decides holds what is found against api.Yes or No: with the fuel of 12.2, and with what is just enough.
func decides(t *testing.T, all, none []api.Texts, want int) string {
	t.Helper()
	s := tells(t, all, none, plenty, want)
	n := enough(all, none)
	if n > plenty {
		return s
	}
	if more := tells(t, all, none, n, want); more != s {
		t.Errorf("%s: %s, with less fuel %s", shown(all, none), brief(s), brief(more))
	}
	tells(t, all, none, n-1, api.Unknown)
	return s
}

// enough is the least fuel with which it is not Unknown; more than plenty, if plenty is not enough.
func enough(all, none []api.Texts) int {
	least, most := 1, plenty+1
	for least < most {
		half := (least + most) / 2
		if _, n := text.Find(all, none, half); n == api.Unknown {
			least = half + 1
		} else {
			most = half
		}
	}
	return least
}

// second is another way to decide: of each set of none one reason is taken why a text is not in it,
// and dfa is asked for each choice of reasons. It is for sets of few Res, and counts of up to 4,095.
func second(all, none []api.Texts) int {
	var res []string
	size := api.Size{Max: -1}
	for _, x := range all {
		res = append(res, x.Res...)
		size = narrowed(size, x.Size)
	}
	slices.Sort(res)
	return reasoned(read(slices.Compact(res)), nil, none, size)
}

func reasoned(all, left []api.Re, none []api.Texts, size api.Size) int {
	if size.Max != -1 && size.Max < size.Min {
		return api.No
	}
	if len(none) == 0 {
		_, n := dfa.Find(all, left, size, plenty)
		return n
	}
	x, verdict := none[0], api.No
	tried := func(left []api.Re, size api.Size) {
		switch n := reasoned(all, left, none[1:], size); {
		case n == api.Yes || verdict == api.Yes:
			verdict = api.Yes
		case n != api.No:
			verdict = n
		}
	}
	if x.Size.Max != -1 && x.Size.Max < x.Size.Min {
		tried(left, size)
		return verdict
	}
	if x.Size.Min > 0 {
		tried(left, narrowed(size, api.Size{Max: x.Size.Min - 1}))
	}
	if x.Size.Max != -1 {
		tried(left, narrowed(size, api.Size{Min: x.Size.Max + 1, Max: -1}))
	}
	for _, r := range read(x.Res) {
		tried(append(slices.Clone(left), r), size)
	}
	return verdict
}

func narrowed(a, b api.Size) api.Size {
	out := api.Size{Min: max(a.Min, b.Min), Max: min(a.Max, b.Max)}
	if out.Max == -1 {
		out.Max = max(a.Max, b.Max)
	}
	return out
}

func read(res []string) []api.Re {
	var out []api.Re
	for _, s := range res {
		r, _ := rex.Parse(s)
		out = append(out, r)
	}
	return out
}

// sizes is all Sizes of patterns together.
func sizes(l ...[]api.Texts) int {
	n := 0
	for _, x := range slices.Concat(l...) {
		for _, r := range read(x.Res) {
			n += rex.Size(r)
		}
	}
	return n
}

// brief is a text that fits into a report.
func brief(s string) string {
	if len(s) > 80 {
		return strconv.QuoteToASCII(s[:40]) + ".." + strconv.QuoteToASCII(s[len(s)-20:]) + " of " + strconv.Itoa(len(s)) + " bytes"
	}
	return strconv.QuoteToASCII(s)
}

func show(x api.Texts) string {
	out := strconv.Itoa(x.Size.Min) + ".." + strconv.Itoa(x.Size.Max) + "{"
	for i, s := range x.Res {
		if i == 10 {
			out += ".. of " + strconv.Itoa(len(x.Res))
			break
		}
		out += brief(s) + " "
	}
	return out + "}"
}

func shown(all, none []api.Texts) string {
	out := "Find("
	for _, l := range [][]api.Texts{all, none} {
		for i, x := range l {
			if i == 10 {
				out += ".. of " + strconv.Itoa(len(l))
				break
			}
			out += show(x) + " "
		}
		out += "; "
	}
	return out + ")"
}
