package cbor_test

import (
	"strings"
	"testing"

	"entrepot/api"
	"entrepot/cbor"
)

// Promise 8.1: what is no item.

func TestNothing(t *testing.T) {
	fails(t, "", api.ErrSyntax)
	if v, err := cbor.Decode(nil); err != api.ErrSyntax || v.Kind != 0 {
		t.Errorf("Decode(nil) = %s, %d", show(v), err)
	}
}

func TestCutOff(t *testing.T) {
	docs := []string{
		"a361618301386318ff6162bf60f4627878f9380062c3a9c249010000000000000000ff61637f61616162ff", "9f5f42010240ff7f62c3a960ff9fff80bfffa0f5f6fb3fb999999999999afa3dcccccdf97e00ff",
		"1b0000000100000000", "3affffffff", "1901f4", "1818", "f93c00", "fa3f800000", "fb3ff0000000000000", "d8024105", "db0000000000000003417f", "590003616263", "7a00000003616263", "9b0000000000000001f6", "ba0000000161610a",
		"f8ff", "c1c1c1c100", "da00010000a0", "a1a1a100000000", "c25f4101ff", "d9d9f780",
	}
	for s := range examples() {
		docs = append(docs, s)
	}
	for _, s := range docs {
		s = unhex(t, s)
		if _, err := cbor.Decode([]byte(s)); err != api.OK && err != api.ErrUnrep {
			t.Errorf("Decode(%s): %d", brief(s), err)
		}
		for i := range len(s) {
			fails(t, s[:i], api.ErrSyntax)
			fails(t, "\x81"+s[:i], api.ErrSyntax)
			fails(t, "\xA1"+s[:i], api.ErrSyntax)
			tally{}.hold(t, openArray+s[:i]+stop)
		}
	}
}

// What RFC 8949's appendix F tells to be malformed.
func TestAppendixF(t *testing.T) {
	for s := range strings.FieldsSeq(`
		18 19 1a 1b 1901 1a0102 1b01020304050607 38 58 78 98 9a01ff00 b8 d8 f8 f900 fa0000 fb000000
		41 61 5affffffff00 5bffffffffffffffff010203 7affffffff00 7b7fffffffffffffff010203
		81 818181818181818181 8200 a1 a20102 a100 a2000000 c0 5f4100 7f6100 9f 9f0102 bf bf01020102 819f 9f8000 9f9f9f9f9fffffffff 9f819f819f9fffffff
		f800 f801 f818 f81f 5f00ff 5f21ff 5f6100ff 5f80ff 5fa0ff 5fc000ff 5fe0ff 7f4100ff 5f5f4100ffff 7f7f6100ffff
		ff 81ff 8200ff a1ff a1ff00 a100ff a20000ff 9f81ff 9f829f819f9fffffffff bf00ff bf000000ff 1f 3f df`) {
		s = unhex(t, s)
		fails(t, s, api.ErrSyntax)
		fails(t, items(s), api.ErrSyntax)
		fails(t, pairs(said("a"), s), api.ErrSyntax)
		fails(t, "\xC1"+s, api.ErrSyntax)
	}
}

func TestMoreBehindTheEnd(t *testing.T) {
	for _, s := range []string{"\x00", "\x18\x18", "\x20", "\x40", "\x41a", openBytes + stop, "\x60", "\x61a", openText + "\x61a" + stop, "\x80", "\x81\x01", openArray + stop, "\xA0", "\xA1\x60\x01", openMap + stop, "\xC2\x41\x05", "\xF4", "\xF6", "\xF7", "\xF8\x20", "\xF9\x3C\x00", "\xC1\x00", "\xA1\x00\x00", within(17, "\x00")} {
		for _, more := range []string{"\x00", "\x20", "\x40", "\x60", "\x80", "\xA0", "\xC0", "\xC0\x00", "\xF6", "\xF7", "\xFF", "\x1C", "\x9F", "\xFF\xFF", "\x00\x00", " ", "\n", s} {
			fails(t, s+more, api.ErrSyntax)
		}
	}
}

// firstBytes is those of each major type, with that information.
func firstBytes(info int) []string {
	var out []string
	for major := range 8 {
		out = append(out, string([]byte{byte(major<<5 + info)}))
	}
	return out
}

func TestInformationThatIsNone(t *testing.T) {
	for info := 28; info <= 30; info++ {
		for _, first := range firstBytes(info) {
			for _, behind := range []string{"", "\x00", "\x00\x00", "\xFF", "\x41a", "\x61a\xFF", strings.Repeat("\x00", 8), strings.Repeat("\x00", 16), strings.Repeat("\x00", 32)} {
				for _, p := range places(first + behind) {
					fails(t, p, api.ErrSyntax)
				}
			}
			fails(t, openBytes+first+stop, api.ErrSyntax)
			fails(t, openText+first+stop, api.ErrSyntax)
			fails(t, "\xC2"+first+"\x00", api.ErrSyntax)
			fails(t, "\xA1"+first+"\x00", api.ErrSyntax)
		}
	}
}

func TestOpenWhereItMayNotBe(t *testing.T) {
	for _, first := range []string{"\x1F", "\x3F", "\xDF"} {
		for _, behind := range []string{"", "\x00", "\xFF", "\x00\xFF", "\x41a", "\x41a\xFF", "\xFF\xFF"} {
			for _, p := range places(first + behind) {
				fails(t, p, api.ErrSyntax)
			}
		}
	}
	for _, s := range []string{openBytes, openText, openArray, openMap} { // not closed
		for _, p := range []string{s, s + s, "\x81" + s, s + "\x41a", s + "\x61a", s + "\x61a\x00", openArray + s + stop, "\xA1\x60" + s, "\xC2" + s, strings.Repeat(s, 100), s + s + stop} {
			fails(t, p, api.ErrSyntax)
		}
	}
}

func TestBreakWhereNoneMayBe(t *testing.T) {
	for _, s := range []string{
		stop, stop + stop, "\x81" + stop, "\x82\x00" + stop, "\x82" + stop + "\x00", "\xA1" + stop, "\xA1" + stop + "\x00", "\xA1\x60" + stop, "\xA1\x00" + stop, "\xA2\x60\x00" + stop, "\xA2\x60\x00" + stop + "\x00", "\x98\x01" + stop, "\xB8\x01" + stop,
		"\xC0" + stop, "\xC2" + stop, "\xC1\xC1" + stop, "\x61" + stop, "\x80" + stop, "\xA0" + stop, "\x40" + stop, "\x00" + stop, "\xF6" + stop,
		openMap + "\x60" + stop, openMap + "\x61a" + stop, openMap + "\x00" + stop, openMap + "\x61a\x00\x61b" + stop, openMap + "\x00\x00\x00" + stop, openMap + "\x60" + stop + stop, openMap + openText + stop + stop, openMap + openArray + stop + stop, openMap + "\x60\xC1" + stop, openMap + "\x60" + stop + "\x00" + stop,
		openArray + "\xC0" + stop, openArray + "\xC2" + stop + stop, openArray + "\x81" + stop, openArray + "\x81" + stop + stop, openArray + "\xA1" + stop, openArray + "\xA1\x60" + stop + stop, openArray + stop + stop, openMap + stop + stop, openBytes + stop + stop, openText + stop + stop, openBytes + "\xC2\x40" + stop,
	} {
		for _, p := range []string{s, items(s), items("\x00", s), pairs(said("a"), s), within(8, s), "\xC1" + s, "\xC2" + s} { // within an open item the break would be its own
			fails(t, p, api.ErrSyntax)
		}
	}
}

func TestChunksOfAnotherKind(t *testing.T) {
	others := []string{"\x00", "\x20", "\x80", "\xA0", "\xC0\x40", "\xC2\x41\x05", "\xC0\x60", "\xF4", "\xF6", "\xF7", "\xF8\x20", "\xF9\x3C\x00", openArray + stop, openMap + stop, openBytes + stop, openText + stop, openBytes + "\x41a" + stop, openText + "\x61a" + stop, "\x9F", "\xBF", "\x5F", "\x7F", "\x1F", "\xDF"}
	for _, s := range others {
		for _, around := range []string{"", "a", "abc"} {
			for _, p := range []string{s, blob(around) + s, s + blob(around), blob(around) + s + blob(around), said(around)} {
				for _, q := range places(openBytes + p + stop) {
					fails(t, q, api.ErrSyntax)
				}
				fails(t, "\xC2"+openBytes+p+stop, api.ErrSyntax)
			}
			for _, p := range []string{s, said(around) + s, s + said(around), said(around) + s + said(around), blob(around)} {
				for _, q := range places(openText + p + stop) {
					fails(t, q, api.ErrSyntax)
				}
				fails(t, pairs(openText+p+stop, "\x00"), api.ErrSyntax)
			}
		}
	}
}

// Lengths that no input has, however great they are.
func TestLengthsBeyondTheEnd(t *testing.T) {
	lengths := []uint64{1, 2, 23, 24, 255, 256, 4096, 4097, 65535, 65536, 1<<31 - 1, 1 << 31, 1<<32 - 1, 1 << 32, 1<<62 - 1, 1 << 62, 1<<63 - 1, 1 << 63, 1<<63 + 1, full - 9, full - 1, full}
	for _, n := range lengths {
		for major := byteString; major <= mapping; major++ {
			for _, h := range heads(major, n) {
				for _, p := range []string{h, "\x82" + h, "\xA1\x60" + h, openArray + h, "\xA1" + h, "\xC2" + h} {
					fails(t, p, api.ErrSyntax)
				}
				if n > 2 {
					fails(t, h+"\x60\x00", api.ErrSyntax)
					fails(t, h+"\x60\x00"+stop, api.ErrSyntax)
					fails(t, "\x5F"+h+"\x00"+stop, api.ErrSyntax)
					fails(t, "\x7F"+h+"\x00"+stop, api.ErrSyntax)
				}
			}
		}
	}
	for n := 1; n < 300; n++ { // one less than there should be
		for _, h := range heads(byteString, uint64(n)) {
			fails(t, h+strings.Repeat("a", n-1), api.ErrSyntax)
			fails(t, h+strings.Repeat("a", n+1), api.ErrSyntax)
		}
		for _, h := range heads(array, uint64(n)) {
			fails(t, h+strings.Repeat("\x00", n-1), api.ErrSyntax)
			fails(t, h+strings.Repeat("\x00", n+1), api.ErrSyntax)
		}
		for _, h := range heads(mapping, uint64(n)) {
			fails(t, h+strings.Repeat("\x00", 2*n-1), api.ErrSyntax)
			fails(t, h+strings.Repeat("\x00", 2*n+1), api.ErrSyntax)
			fails(t, h+strings.Repeat("\x00", n), api.ErrSyntax)
		}
	}
}

func TestNoUTF8(t *testing.T) {
	for _, s := range []string{
		"\x80", "\xBF", "\xC0", "\xC1", "\xF5", "\xFE", "\xFF", "\xC3", "\xE2\x82", "\xF0\x9D\x84", "\xC0\x80", "\xC1\xBF", "\xE0\x80\x80", "\xE0\x9F\xBF", "\xF0\x80\x80\x80", "\xF0\x8F\xBF\xBF",
		"\xED\xA0\x80", "\xED\xBF\xBF", "\xED\xA0\xB4\xED\xB4\x9E", "\xF4\x90\x80\x80", "\xF7\xBF\xBF\xBF", "\xF8\x88\x80\x80\x80", "\xC3\xC3\xA9", "\xC3a", "\xE2\x82a", "\xF0\x9D\x84a", "\xA9\xC3",
	} {
		for _, p := range []string{s, "a" + s, s + "a", "é" + s + "é"} {
			for _, q := range append(places(said(p)), places(openText+said("a")+said(p)+stop)...) {
				fails(t, q, api.ErrSyntax)
			}
			fails(t, pairs(said(p), "\x00"), api.ErrSyntax)
			fails(t, pairs(openText+said(p)+stop, "\x00"), api.ErrSyntax)
			fails(t, pairs("\xC1"+said(p), "\x00"), api.ErrSyntax)
			fails(t, pairs(items(said(p)), "\x00"), api.ErrSyntax)
			fails(t, "\xC2"+said(p), api.ErrSyntax)
			reads(t, blob(p), raw(p)) // bytes need be none
			reads(t, openBytes+blob(p)+stop, raw(p))
		}
	}
}

// Each chunk is by itself.
func TestCodePointsCutInTwo(t *testing.T) {
	for _, c := range []string{"é", "€", "𝄞", "\u07FF", "\uFFFD", "\U0010FFFF"} {
		for i := 1; i < len(c); i++ {
			for _, chunks := range []string{said(c[:i]) + said(c[i:]), said("a"+c[:i]) + said(c[i:]+"a"), said(c[:i]) + said("") + said(c[i:]), said(c) + said(c[:i]) + said(c[i:])} {
				for _, p := range places(openText + chunks + stop) {
					fails(t, p, api.ErrSyntax)
				}
				fails(t, pairs(openText+chunks+stop, "\x00"), api.ErrSyntax)
			}
			reads(t, openBytes+blob(c[:i])+blob(c[i:])+stop, raw(c))
			reads(t, openText+said(c)+said("a"+c)+stop, text(c+"a"+c))
		}
	}
}

func TestSimpleValuesBelow32InTwoBytes(t *testing.T) {
	for n := range 32 {
		for _, p := range places(head(simple, 1, uint64(n))) {
			fails(t, p, api.ErrSyntax)
		}
		fails(t, pairs(head(simple, 1, uint64(n)), "\x00"), api.ErrSyntax)
		fails(t, "\xC1"+head(simple, 1, uint64(n)), api.ErrSyntax)
	}
}
