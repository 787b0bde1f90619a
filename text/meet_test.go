package text_test

import (
	"slices"
	"testing"

	"entrepot/api"
	"entrepot/text"
)

// Promise 12.1: Meet; and 12.3.

func TestMeetOfPatterns(t *testing.T) {
	for _, c := range []struct{ a, b, want []string }{
		{nil, nil, nil}, {[]string{"a"}, nil, []string{"a"}}, {nil, []string{"a"}, []string{"a"}}, {[]string{}, []string{}, nil},
		{[]string{"a*"}, []string{"aa"}, []string{"a*", "aa"}}, {[]string{"aa"}, []string{"a*"}, []string{"aa", "a*"}},
		{[]string{"b", "a"}, []string{"d", "c"}, []string{"b", "a", "d", "c"}}, {[]string{"d", "c"}, []string{"b", "a"}, []string{"d", "c", "b", "a"}},
		{[]string{"a"}, []string{"a"}, []string{"a"}}, {[]string{"a", "b"}, []string{"a", "b"}, []string{"a", "b"}}, {[]string{"a", "b"}, []string{"b", "a"}, []string{"a", "b"}},
		{[]string{"a", "b"}, []string{"b", "c"}, []string{"a", "b", "c"}}, {[]string{"b", "c"}, []string{"a", "b"}, []string{"b", "c", "a"}}, {[]string{"a", "b", "c"}, []string{"c", "d", "a", "e"}, []string{"a", "b", "c", "d", "e"}},
		{[]string{"a*"}, []string{"aa", "a*", "aa"}, []string{"a*", "aa"}}, {nil, []string{"a", "a"}, []string{"a"}}, {nil, []string{"a", "b", "a", "b", "c"}, []string{"a", "b", "c"}}, // what b has twice
		{[]string{"a", "a"}, nil, []string{"a", "a"}}, {[]string{"a", "a"}, []string{"a"}, []string{"a", "a"}}, {[]string{"a", "a"}, []string{"b", "b", "a"}, []string{"a", "a", "b"}}, {[]string{"a", "b", "a"}, []string{"c", "c", "b"}, []string{"a", "b", "a", "c"}}, // what a has twice
		{[]string{"a"}, []string{"(a)", "[a]", "a", "a{1}"}, []string{"a", "(a)", "[a]", "a{1}"}}, // other texts of the same pattern
		{[]string{""}, []string{"", "()"}, []string{"", "()"}}, {[]string{"\n"}, []string{`\n`}, []string{"\n", `\n`}}, {[]string{"é"}, []string{"e\u0301", "é"}, []string{"é", "e\u0301"}},
	} {
		meets(t, of(c.a...), of(c.b...), of(c.want...))
		meets(t, set(1, 9, c.a...), set(0, 4, c.b...), set(1, 4, c.want...))
	}
}

func TestMeetOfCounts(t *testing.T) {
	for _, c := range []struct{ a, b, want api.Texts }{
		{sized(0, -1), sized(0, -1), sized(0, -1)}, {sized(3, -1), sized(5, -1), sized(5, -1)}, {sized(0, 0), sized(0, 0), sized(0, 0)},
		{sized(0, 7), sized(0, -1), sized(0, 7)}, {sized(0, 0), sized(0, -1), sized(0, 0)}, {sized(2, 7), sized(4, -1), sized(4, 7)}, {sized(4, 7), sized(2, -1), sized(4, 7)}, {sized(0, 4096), sized(4096, -1), sized(4096, 4096)},
		{sized(1, 9), sized(0, 4), sized(1, 4)}, {sized(1, 4), sized(0, 9), sized(1, 4)}, {sized(1, 9), sized(3, 5), sized(3, 5)}, {sized(1, 5), sized(3, 9), sized(3, 5)}, {sized(2, 2), sized(2, 2), sized(2, 2)},
		{sized(0, 2), sized(3, 5), sized(3, 2)}, {sized(0, 2), sized(3, -1), sized(3, 2)}, {sized(0, 0), sized(4096, 4096), sized(4096, 0)}, // they meet in nothing
		{sized(5, 3), sized(0, -1), sized(5, 3)}, {sized(5, 3), sized(0, 9), sized(5, 3)}, {sized(5, 3), sized(6, -1), sized(6, 3)}, {sized(5, 3), sized(0, 1), sized(5, 1)}, {sized(5, 3), sized(4, 2), sized(5, 2)}, {sized(5, 3), sized(5, 3), sized(5, 3)}, {sized(4096, 0), sized(0, 4096), sized(4096, 0)}, // Max below Min
	} {
		meets(t, c.a, c.b, c.want)
		meets(t, c.b, c.a, c.want)
		withRes := set(c.want.Size.Min, c.want.Size.Max, "a*", "b*")
		meets(t, set(c.a.Size.Min, c.a.Size.Max, "a*"), set(c.b.Size.Min, c.b.Size.Max, "b*"), withRes)
	}
}

func TestMeetOfItself(t *testing.T) {
	for _, x := range sets(of(), of("a"), of("a", "a"), of("a", "b", "a"), sized(3, 2), set(3, 5, "a*", ".*"), of(unlike(8)...), of(copies(8, "a")...)) {
		meets(t, x, x, x)
		got, _ := text.Meet(x, x)
		for i := range got.Res {
			got.Res[i] = "changed"
		}
		if slices.Contains(x.Res, "changed") {
			t.Errorf("%s shares what it answers", show(x))
		}
	}
}

func TestMeetOfEightAndMore(t *testing.T) {
	l := unlike(9)
	for n := range 9 {
		meets(t, of(l[:n]...), of(l[n:8]...), of(l[:8]...))
		meets(t, of(l[:8]...), of(l[n:8]...), of(l[:8]...))
		meets(t, of(l[:n]...), of(l[:8]...), of(l[:8]...))
		meets(t, of(l[n:8]...), of(l[:8]...), of(slices.Concat(l[n:8], l[:n])...))
		meets(t, of(l[:8]...), of(copies(n, l[3])...), of(l[:8]...))
		if n > 0 {
			meetsNot(t, of(l[:n]...), of(l[n:9]...))
			meetsNot(t, of(l[:8]...), of(l[n:9]...))
			meetsNot(t, of(copies(8, "a")...), of(copies(n, "b")...))
		}
		if n < 8 {
			meets(t, of(copies(n, "a")...), of(copies(8, "b")...), of(append(copies(n, "a"), "b")...)) // 8 of b's, and yet one more alone
		}
	}
}

func TestMeetOfWhatMayNotBe(t *testing.T) {
	for _, s := range bads {
		for _, x := range sets(of(s), of("a", s), of(s, "a"), of("a", s, "b"), set(3, 2, s), of(append(unlike(7), s)...)) {
			for _, y := range sets(of(), of("a"), of(unlike(8)...), sized(3, 2), of(s)) {
				meetsNot(t, x, y)
				meetsNot(t, y, x)
			}
		}
	}
	for _, x := range sets(sized(-1, -1), sized(0, -2), sized(4097, -1), sized(0, 4097), of(unlike(9)...), of(copies(9, "a")...)) {
		for _, y := range sets(of(), of("a"), of(unlike(8)...), sized(3, 2), x) {
			meetsNot(t, x, y)
			meetsNot(t, y, x)
		}
	}
}

// Has of Meet is both's: of texts that are in both, in one, in none.
func TestHasOfMeet(t *testing.T) {
	random := seeded(2)
	seen := map[[2]bool]int{}
	for range 2000 {
		a, b := scattered(random, 4, 8, patterns), scattered(random, 4, 8, patterns)
		if len(a.Res) > 0 && random.Intn(3) == 0 {
			b.Res = append(b.Res, pick(random, a.Res))
		}
		both, ok := text.Meet(a, b)
		if !ok || !text.May(both) {
			t.Fatalf("%s, %s", show(a), show(b))
		}
		for _, s := range append(shortTexts, "a\xFF", "\xFF", "abcde") {
			inA, inB := holds(a, s), holds(b, s)
			has(t, a, s, inA)
			has(t, b, s, inB)
			has(t, both, s, inA && inB)
			seen[[2]bool{inA, inB}]++
		}
	}
	for _, n := range seen {
		if n < 1000 {
			t.Errorf("%v", seen)
		}
	}
}

func TestHasOfMeetAtTheEnds(t *testing.T) {
	ends := []int{0, 1, 2, 3, 4}
	for _, a := range ends {
		for _, b := range append(ends, -1) {
			for _, c := range ends {
				for _, d := range append(ends, -1) {
					x, y := set(a, b, "[ab]*"), set(c, d, "[bc]*", "[^a]*")
					both, ok := text.Meet(x, y)
					for n, s := range []string{"", "b", "bb", "bbb", "bbbb", "bbbbb"} {
						want := n >= max(a, c) && (b == -1 || n <= b) && (d == -1 || n <= d)
						if !ok || text.Has(both, s) != want || (text.Has(x, s) && text.Has(y, s)) != want {
							t.Fatalf("%s, %s: %s", show(x), show(y), brief(s))
						}
					}
				}
			}
		}
	}
}
