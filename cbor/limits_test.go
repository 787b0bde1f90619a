package cbor_test

import (
	"strings"
	"testing"

	"entrepot/api"
)

// Promise 8.1: what is too long, too deep, too much.

// padded is s behind so many tags that all of it has n bytes; they can't be had.
func padded(s string, n int) string { return strings.Repeat("\xC1", n-len(s)) + s }

// filled is an array of n bytes in all: of byte strings, as long as they may be, and one that is shorter.
func filled(n int) string {
	long := blob(strings.Repeat("a", 4096))
	count := (n - 100) / len(long)
	rest := n - len("\x81") - count*len(long) - len("\x59\x00\x00")
	return shortest(array, count+1) + strings.Repeat(long, count) + head(byteString, 2, uint64(rest)) + strings.Repeat("b", rest)
}

func TestMostBytes(t *testing.T) {
	for _, n := range []int{65_000, 65_535, 65_536} {
		if len(filled(n)) != n {
			t.Fatalf("%d, not %d bytes", len(filled(n)), n)
		}
		ends(t, filled(n), api.OK)
		fails(t, padded("\x00", n), api.ErrUnrep)
		fails(t, padded("\x61\xFF", n), api.ErrSyntax)
		fails(t, padded("\x00\x00", n), api.ErrSyntax)
		fails(t, strings.Repeat("\xC1", n), api.ErrSyntax)
		fails(t, filled(n-1)+"\x00", api.ErrSyntax)
		fails(t, string(make([]byte, n)), api.ErrSyntax)
		fails(t, head(byteString, 4, uint64(n-5))+strings.Repeat("a", n-5), api.ErrLimit) // too long a byte string
	}
	for _, n := range []int{65_537, 65_538, 70_000, 1 << 20} {
		fails(t, string(make([]byte, n)), api.ErrLimit)
		fails(t, strings.Repeat("\xC1", n), api.ErrLimit)
		fails(t, filled(n), api.ErrLimit)
		for _, s := range []string{"\x00", "\xF7", "\x1C", "\x61\xFF", "\xA2\x60\x00\x60\x00", within(17, "\x00"), filled(65_536), filled(65_536) + "\x00", "\xFF"} {
			fails(t, padded(s, n), api.ErrLimit)
			fails(t, s+strings.Repeat("\x00", n-len(s)), api.ErrLimit)
		}
	}
}

// deepest is what is told of something that stands at that level.
func deepest(level, otherwise int) int {
	if level > 16 {
		return api.ErrDepth
	}
	return otherwise
}

func TestLevels(t *testing.T) {
	for n := range 24 {
		for _, s := range []string{"\xF6", "\x01", "\x61a", "\x40", "\x80", "\xA0", openArray + stop, openMap + stop, openText + "\x61a" + stop, openBytes + stop, "\xF9\x38\x00"} {
			ends(t, within(n, s), deepest(n+1, api.OK))
			ends(t, withinOpen(n, s), deepest(n+1, api.OK))
			ends(t, withinMaps(n, s), deepest(n+1, api.OK))
			ends(t, within(n/2, withinMaps(n-n/2, s)), deepest(n+1, api.OK))
			ends(t, withinMaps(n/2, withinOpen(n-n/2, s)), deepest(n+1, api.OK))
			ends(t, items(within(n, s), "\x01"), deepest(n+2, api.OK))
			ends(t, items("\x01", "\x80", withinOpen(n, s), "\xA0"), deepest(n+2, api.OK))
			ends(t, pairs(said("b"), within(n, s), said("a"), "\x01", said("c"), "\x81\x80"), deepest(n+2, api.OK))
			ends(t, within(n, pairs(openText+"\x61a"+stop, s)), deepest(n+2, api.OK)) // a name is no level of its own
		}
	}
	reads(t, within(16, "\x80")[1:], nested(15, list()))
	reads(t, within(15, "\x07"), nested(15, plus(7)))
	for _, n := range []int{17, 100, 1000, 10_000, 32_767} {
		fails(t, within(n, "\x80"), api.ErrDepth)
		fails(t, withinOpen(n, "\x60"), api.ErrDepth)
		fails(t, within(n, ""), api.ErrSyntax)
		fails(t, withinOpen(n, "")[1:], api.ErrSyntax)
		fails(t, withinOpen(n, "\x60")[:2*n], api.ErrSyntax)
		fails(t, withinOpen(n, "\x1C"), api.ErrSyntax)
	}
	fails(t, within(65_535, "\x00"), api.ErrDepth)
	fails(t, within(65_536, ""), api.ErrSyntax)
	fails(t, withinOpen(32_768, ""), api.ErrDepth)
	fails(t, strings.Repeat(openArray, 65_536), api.ErrSyntax)
	fails(t, withinMaps(21_845, "\x00"), api.ErrDepth)
	fails(t, strings.Repeat(openMap, 65_536), api.ErrSyntax)
	fails(t, withinKeys(32_767, "\x00"), api.ErrDepth)
	fails(t, strings.Repeat("\xA1", 65_536), api.ErrSyntax)
	fails(t, within(4, many(12, within(14, "\x80"))), api.ErrDepth)
}

// Tags are no levels, wherever they stand.
func TestTagsAreNoLevels(t *testing.T) {
	for n := range 20 {
		for _, tags := range []int{1, 2, 16, 17, 1000, 30_000} {
			ahead := strings.Repeat("\xC1", tags)
			ends(t, within(n, ahead+"\x00"), deepest(n+1, api.ErrUnrep))
			ends(t, ahead+within(n, "\x00"), deepest(n+1, api.ErrUnrep))
			ends(t, within(n/2, ahead+within(n-n/2, "\x80")), deepest(n+1, api.ErrUnrep))
			ends(t, within(n, ahead+pairs(said("a"), ahead+"\x00")), deepest(n+2, api.ErrUnrep))
		}
		ends(t, within(n, "\xC2\x41\x05"), deepest(n+1, api.OK))
		ends(t, withinMaps(n, "\xD9\x00\x03"+openBytes+"\x41\x05"+stop), deepest(n+1, api.OK))
		ends(t, strings.Repeat("\xC1\x81", n)+"\xC2\x41\x05", deepest(n+1, errorIf(n > 0, api.ErrUnrep)))
	}
	reads(t, within(15, "\xC3\x41\x05"), nested(15, minus(6)))
	fails(t, strings.Repeat("\xC1", 65_535)+"\x00", api.ErrUnrep)
	fails(t, strings.Repeat("\xC2", 65_535)+"\x40", api.ErrUnrep)
	fails(t, strings.Repeat("\xC1\x81", 32_767)+"\x00", api.ErrDepth)
}

func errorIf(is bool, err int) int {
	if is {
		return err
	}
	return api.OK
}

// A key that is no text stands at the level of an element; a name stands at none.
func TestLevelsOfKeys(t *testing.T) {
	for n := range 20 {
		for _, key := range []string{"\x00", "\x40", "\xF6", "\x80", "\xA0", "\xC1\x00", "\xC1\x61a", "\xC2\x41\x05"} {
			ends(t, within(n, pairs(key, "\x00")), deepest(n+2, api.ErrUnrep))
			ends(t, withinMaps(n, pairs(said("a"), "\x00", key, "\x00")), deepest(n+2, api.ErrUnrep))
			ends(t, withinKeys(n+1, key), deepest(n+2, api.ErrUnrep))
			ends(t, pairs(within(n, key), "\x00"), deepest(n+2, api.ErrUnrep))
			ends(t, pairs(withinKeys(n, key), within(3, "\x00")), deepest(max(n+2, 5), api.ErrUnrep))
			ends(t, pairs(key, within(n, "\x00")), deepest(n+2, api.ErrUnrep))
		}
		ends(t, within(n, pairs(said("a"), "\x00")), deepest(n+2, api.OK))
		ends(t, within(n, pairs(items(said("a")), "\x00")), deepest(n+3, api.ErrUnrep))
	}
}

func TestMostItems(t *testing.T) {
	for n, want := range map[int]int{0: api.OK, 1: api.OK, 999: api.OK, 1000: api.OK, 1001: api.ErrLimit, 1002: api.ErrLimit, 5000: api.ErrLimit} {
		for _, e := range []string{"\x01", "\xF6", "\x60", "\x80"} {
			all := append(places(many(n, e)), places(openMany(n, e))...)
			all = append(append(all, places(wide(n, e))...), places(openMap+strings.TrimPrefix(wide(n, e), shortest(mapping, n))+stop)...)
			for _, s := range all {
				ends(t, s, want)
			}
			for _, s := range places(numbered(n, e)) {
				if n > 0 {
					ends(t, s, max(want, api.ErrUnrep))
				}
			}
		}
		fails(t, "\xC1"+many(n, "\x01"), max(want, api.ErrUnrep))
		fails(t, pairs(many(n, "\x01"), "\x01"), max(want, api.ErrUnrep))
	}
	fails(t, shortest(mapping, 1001)+strings.TrimPrefix(numbered(500, "\x01"), shortest(mapping, 500))+strings.TrimPrefix(wide(501, "\x01"), shortest(mapping, 501)), api.ErrLimit)
	fails(t, shortest(mapping, 1000)+strings.TrimPrefix(numbered(500, "\x01"), shortest(mapping, 500))+strings.TrimPrefix(wide(500, "\x01"), shortest(mapping, 500)), api.ErrUnrep)
	reads(t, many(1000, "\x01"), list(copies(1000, one)...))
	reads(t, openMany(1000, "\x01"), list(copies(1000, one)...))
	reads(t, wide(1000, "\x01"), api.Value{Kind: api.KMap, Keys: names(1000), List: copies(1000, one)})
	ends(t, openBytes+strings.Repeat("\x41a", 1001)+stop, api.OK) // chunks are no items
	ends(t, openText+strings.Repeat("\x61a", 4096)+stop, api.OK)
	fails(t, many(65_533, "\x01"), api.ErrLimit)
	fails(t, openMany(65_534, "\x01"), api.ErrLimit)
	fails(t, openMany(65_533, "\x01")+stop, api.ErrSyntax)
}

func TestMostNodes(t *testing.T) {
	thousand := many(999, "\x01")
	nine := strings.Repeat(thousand, 9) // 9,000 nodes
	ten := "\x8A" + nine                // 9,001, and one element is left
	fifth := strings.Repeat(thousand, 5) + strings.Repeat(wide(999, "\x01"), 4)
	mixed := shortest(mapping, 500) + strings.TrimPrefix(numbered(498, "\x01"), shortest(mapping, 498)) // but for two members
	nineNumbers := items(many(9, "\x01"))                                                               // 11 nodes
	for s, want := range map[string]int{
		ten + many(998, "\x01"):                  api.OK, // 10,000
		ten + many(999, "\x01"):                  api.ErrLimit,
		ten + openMany(998, "\x01"):              api.OK,
		ten + openMany(999, "\x01"):              api.ErrLimit,
		ten + many(998, "\xC2\x41\x05"):          api.OK, // a tag is none of its own
		ten + many(999, "\xC2\x41\x05"):          api.ErrLimit,
		ten + "\xC1\xC1" + many(998, "\xC1\x00"): api.ErrUnrep,
		ten + "\xC1\xC1" + many(999, "\xC1\x00"): api.ErrLimit,
		ten + many(998, "\xF7"):                  api.ErrUnrep,
		ten + many(999, "\xF7"):                  api.ErrLimit,
		ten + wide(998, "\x01"):                  api.OK, // nor is a name
		ten + wide(999, "\x01"):                  api.ErrLimit,
		ten + numbered(499, "\x01"):              api.ErrUnrep, // 10,000: a key that is no text is one
		ten + numbered(500, "\x01"):              api.ErrLimit,
		ten + mixed + "\x60\xF6\x61a\xF6":        api.ErrUnrep, // 10,000
		ten + mixed + "\x60\xF6\xC1\x61a\xF6":    api.ErrLimit,
		ten + mixed + "\x60\xF6\x80\xF6":         api.ErrLimit,
		ten + pairs(many(996, "\x01"), "\x01"):   api.ErrUnrep, // 10,000
		ten + pairs(many(997, "\x01"), "\x01"):   api.ErrLimit,
		"\x8A" + fifth + many(998, "\x01"):       api.OK,
		"\x8A" + fifth + many(999, "\x01"):       api.ErrLimit,
		many(909, nineNumbers):                   api.OK, // 10,000
		many(910, nineNumbers):                   api.ErrLimit,
		wide(909, nineNumbers):                   api.OK,
		wide(910, nineNumbers):                   api.ErrLimit,
		"\x81" + ten + many(997, "\x01"):         api.OK,
		"\x81" + ten + many(998, "\x01"):         api.ErrLimit,
	} {
		ends(t, s, want)
	}
}

func TestLongTexts(t *testing.T) {
	for s, want := range map[string]int{
		strings.Repeat("a", 4095): api.OK, strings.Repeat("a", 4096): api.OK, strings.Repeat("a", 4097): api.ErrLimit, strings.Repeat("a", 60_000): api.ErrLimit,
		strings.Repeat("é", 2048): api.OK, strings.Repeat("é", 2048) + "a": api.ErrLimit, strings.Repeat("𝄞", 1024): api.OK, strings.Repeat("𝄞", 1025): api.ErrLimit, // in bytes
	} {
		half := len(s) / 8 * 4
		for _, p := range []string{said(s), openText + said(s) + stop, openText + said(s[:half]) + said(s[half:]) + stop, openText + "\x60" + said(s[:4]) + said(s[4:]) + "\x60" + stop} {
			for _, q := range append(places(p), places(pairs(p, "\x01"))...) {
				ends(t, q, want)
			}
			ends(t, pairs(p, "\x01", said(""), "\x02", said("z"), "\x03"), want)
			ends(t, "\xC1"+p, max(want, api.ErrUnrep))
			ends(t, pairs("\xC1"+p, "\x01"), max(want, api.ErrUnrep))
			ends(t, pairs(pairs(p, "\x01"), "\x01"), max(want, api.ErrUnrep))
		}
		for _, p := range []string{blob(s), openBytes + blob(s) + stop, openBytes + blob(s[:half]) + blob(s[half:]) + stop, openBytes + blob(s[:1]) + "\x40" + blob(s[1:]) + stop} {
			for _, q := range places(p) {
				ends(t, q, want)
			}
			ends(t, "\xC2"+p, max(want, api.ErrUnrep)) // a byte string, for all that it is a number's
			ends(t, pairs(p, "\x01"), max(want, api.ErrUnrep))
		}
	}
	long := strings.Repeat("ab", 2048)
	reads(t, said(long), text(long))
	reads(t, blob(long), raw(long))
	reads(t, pairs(said(long), blob(long)), member(long, raw(long)))
	fails(t, pairs(said(long), "\x01", said(long), "\x02"), api.ErrSyntax)
	fails(t, pairs(said(long+"c"), "\x01", openText+said(long)+said("c")+stop, "\x02"), api.ErrSyntax)
	fails(t, pairs(said(long+"c"), "\x01", said(long+"d"), "\x02"), api.ErrLimit)
	fails(t, "\xC2"+blob(strings.Repeat("\x00", 4096)+"\x05"), api.ErrLimit)
	reads(t, "\xC2"+blob(strings.Repeat("\x00", 4095)+"\x05"), plus(5))
}

// What is wrong, the first to be told first, in whatever order it stands.
func TestFirstErrorIsTold(t *testing.T) {
	long := strings.Repeat("a", 4097)
	kinds := []struct {
		err    int
		pieces []string
	}{
		{api.ErrSyntax, []string{"\x1C", "\x61\xFF", "\xA2\x60\x00\x60\x00", "\xF8\x1F", "\x5F\x61a\xFF", within(20, "\x1C"), "\xC1\x61\xFF", pairs("\x01", "\x61\xFF"), pairs(pairs(said(long), "\x00", said(long), "\x00"), "\x00"), "\x7F\x61\xC3\x61\xA9\xFF", openMap + "\x60" + stop}},
		{api.ErrDepth, []string{within(16, "\x00"), withinMaps(16, "\x00"), withinKeys(16, "\x00"), within(20, "\xF7"), within(30, said(long)), within(17, pairs("\x00", "\x00")), items(many(1001, "\x00"), within(15, "\x00")), "\xC1" + within(16, "\xC1\x00"), withinOpen(16, "\x60")}},
		{api.ErrLimit, []string{many(1001, "\x00"), openMany(1001, "\xF7"), wide(1001, "\x00"), numbered(1001, "\x00"), said(long), blob(long), "\xC2" + blob(long), pairs(said(long), "\xF7"), pairs(blob(long), "\x00"), many(11, many(950, "\x00")), many(11, numbered(475, "\x00")), "\xC1" + said(long)}},
		{api.ErrUnrep, []string{"\xF7", "\xE0", "\xF8\x20", "\xC1\x00", "\xC2\x00", pairs("\x00", "\x00"), pairs(said("a"), "\xF7"), within(10, "\xC1\x60"), "\xC3" + blob(strings.Repeat("\xFF", 32)), "\xC2" + blob(long[:4096])}},
		{api.OK, []string{"\x00", "\x80", "\x61a", "\xF9\x3C\x00", "\xA1\x61a\xA1\x61a\xF6", "\xC2\x41\x05"}},
	}
	for i, first := range kinds {
		for _, later := range kinds[i:] {
			for _, a := range first.pieces {
				for _, b := range later.pieces {
					for _, s := range []string{items(a, b), items(b, a), openArray + a + b + stop, openMap + said("a") + a + said("b") + b + stop, pairs(said("b"), b, said("a"), a), items(pairs(said("x"), b), "\x01", items(a))} {
						ends(t, s, first.err)
					}
					for _, s := range []string{pairs(a, b), pairs(b, a), "\xC1" + items(b, a)} {
						if b[0]>>5 != textString && a[0]>>5 != textString {
							ends(t, s, errorOr(first.err, api.ErrUnrep))
						}
					}
				}
			}
		}
		for _, a := range first.pieces {
			fails(t, padded(a, 65_537), api.ErrLimit)
			fails(t, openArray+a, api.ErrSyntax)
			fails(t, a+"\x00", api.ErrSyntax)
			fails(t, items(a)+"\xF7", api.ErrSyntax)
		}
	}
}

// errorOr is err, unless there is none.
func errorOr(err, otherwise int) int {
	if err == api.OK {
		return otherwise
	}
	return err
}
