package dfa_test

import (
	"slices"
	"strconv"
	"strings"
	"testing"

	"entrepot/api"
	"entrepot/dfa"
	"entrepot/rex"
	"entrepot/utf"
)

const (
	top    = 0x10FFFF
	plenty = 1 << 20 // the fuel of promise 11.2
	wrong  = -1
)

var free = api.Size{Max: -1}

func sized(least, most int) api.Size { return api.Size{Min: least, Max: most} }
func just(n int) api.Size            { return api.Size{Min: n, Max: n} }

// set is a ReSet of ranges, each by its two ends.
func set(ends ...int) api.Re {
	r := api.Re{Kind: api.ReSet}
	for i := 0; i < len(ends); i += 2 {
		r.Set = append(r.Set, api.Range{Lo: ends[i], Hi: ends[i+1]})
	}
	return r
}

func one(c int) api.Re       { return set(c, c) }
func dot() api.Re            { return set(0, 0xD7FF, 0xE000, top) }
func seq(l ...api.Re) api.Re { return api.Re{Kind: api.ReSeq, L: l} }
func alt(l ...api.Re) api.Re { return api.Re{Kind: api.ReAlt, L: l} }
func rep(least, most int, r api.Re) api.Re {
	return api.Re{Kind: api.ReRep, L: []api.Re{r}, Min: least, Max: most}
}
func star(r api.Re) api.Re { return rep(0, -1, r) }

// copies is n times r.
func copies(n int, r api.Re) []api.Re {
	l := make([]api.Re, n)
	for i := range l {
		l[i] = r
	}
	return l
}

// parsed is patterns that must be read.
func parsed(t *testing.T, list ...string) []api.Re {
	t.Helper()
	var out []api.Re
	for _, s := range list {
		r, err := rex.Parse(s)
		if err != api.OK {
			t.Fatalf("Parse(%s): %d", brief(s), err)
		}
		out = append(out, r)
	}
	return out
}

// split is the patterns of a text, one behind the other with blanks between.
func split(t *testing.T, s string) []api.Re {
	t.Helper()
	return parsed(t, strings.Fields(s)...)
}

func clones(l []api.Re) []api.Re {
	l = slices.Clone(l)
	for i := range l {
		l[i].Set = slices.Clone(l[i].Set)
		l[i].L = clones(l[i].L)
	}
	return l
}

// same is whether all parts are; a nil list and an empty one are the same.
func same(x, y api.Re) bool {
	return x.Kind == y.Kind && x.Min == y.Min && x.Max == y.Max && slices.Equal(x.Set, y.Set) && slices.EqualFunc(x.L, y.L, same)
}

// such is whether a text is what Find may tell.
func such(all, none []api.Re, size api.Size, s string) bool {
	n := utf.Count(s)
	if len(s) > api.MaxText || !utf.Valid(s) || n < size.Min || size.Max != -1 && n > size.Max {
		return false
	}
	matches := func(r api.Re) bool { return rex.Match(r, s) }
	return !slices.ContainsFunc(none, matches) && !slices.ContainsFunc(all, func(r api.Re) bool { return !matches(r) })
}

// ask is what Find tells. It holds promise 11.3 of a Yes, that beside all else there is no text, that
// nothing handed in is changed, and that the same call tells the same again.
func ask(t *testing.T, all, none []api.Re, size api.Size, fuel int) (string, int) {
	t.Helper()
	a, b := clones(all), clones(none)
	s, n := dfa.Find(a, b, size, fuel)
	if !slices.EqualFunc(a, all, same) || !slices.EqualFunc(b, none, same) {
		t.Errorf("%s: changed", show(all, none, size))
	}
	if n == api.Yes && !such(all, none, size, s) || n != api.Yes && s != "" || n != api.Yes && n != api.No && n != api.Unknown && n != wrong {
		t.Errorf("%s: %s, %d", show(all, none, size), brief(s), n)
	}
	if again, m := dfa.Find(a, b, size, fuel); again != s || m != n {
		t.Errorf("%s: %s, %d, and then %s, %d", show(all, none, size), brief(s), n, brief(again), m)
	}
	return s, n
}

// tells holds Find against api.Yes, No or Unknown.
func tells(t *testing.T, all, none []api.Re, size api.Size, fuel, want int) string {
	t.Helper()
	s, n := ask(t, all, none, size, fuel)
	if n != want {
		t.Errorf("%s with fuel %d: %s, %d, not %d", show(all, none, size), fuel, brief(s), n, want)
	}
	return s
}

// finds holds what is found by patterns in texts against api.Yes or No: with all the fuel that 11.2
// asks for, and with what is just enough.
func finds(t *testing.T, all, none string, size api.Size, want int) string {
	t.Helper()
	return decides(t, split(t, all), split(t, none), size, want)
}

func decides(t *testing.T, all, none []api.Re, size api.Size, want int) string {
	t.Helper()
	s := tells(t, all, none, size, plenty, want)
	if n := enough(all, none, size); n <= plenty {
		if more := tells(t, all, none, size, n, want); more != s {
			t.Errorf("%s: %s, with less fuel %s", show(all, none, size), brief(s), brief(more))
		}
		tells(t, all, none, size, n-1, api.Unknown)
	}
	return s
}

// enough is the least fuel with which it is not Unknown; more than plenty, if plenty is not enough.
func enough(all, none []api.Re, size api.Size) int {
	least, most := 1, plenty+1
	for least < most {
		half := (least + most) / 2
		if _, n := dfa.Find(all, none, size, half); n == api.Unknown {
			least = half + 1
		} else {
			most = half
		}
	}
	return least
}

// brief is a text that fits into a report.
func brief(s string) string {
	if len(s) > 120 {
		return strconv.QuoteToASCII(s[:60]) + ".." + strconv.QuoteToASCII(s[len(s)-30:]) + " of " + strconv.Itoa(len(s)) + " bytes"
	}
	return strconv.QuoteToASCII(s)
}

func show(all, none []api.Re, size api.Size) string {
	out := "Find("
	for _, l := range [][]api.Re{all, none} {
		for i, r := range l {
			if i == 4 {
				out += ".. of " + strconv.Itoa(len(l)) + " "
				break
			}
			out += shown(r, 5) + " "
		}
		out += "; "
	}
	return out + strconv.Itoa(size.Min) + ".." + strconv.Itoa(size.Max) + ")"
}

// shown is a pattern by its parts: it need not be one that may be.
func shown(r api.Re, levels int) string {
	if levels == 0 {
		return ".."
	}
	out := "{" + strconv.Itoa(r.Kind)
	for i, x := range r.Set {
		if i == 4 {
			out += " .. of " + strconv.Itoa(len(r.Set))
			break
		}
		out += " " + strconv.FormatInt(int64(x.Lo), 16) + "-" + strconv.FormatInt(int64(x.Hi), 16)
	}
	for i, part := range r.L {
		if i == 6 {
			out += " .. of " + strconv.Itoa(len(r.L))
			break
		}
		out += " " + shown(part, levels-1)
	}
	if r.Min != 0 || r.Max != 0 {
		out += " " + strconv.Itoa(r.Min) + "," + strconv.Itoa(r.Max)
	}
	return out + "}"
}
