package cbor_test

import (
	"strings"
	"testing"

	"entrepot/api"
)

// Promise 8.1: what can't be had.

// unrepresentable holds that s is told so, wherever it stands.
func unrepresentable(t *testing.T, s string) {
	t.Helper()
	for _, p := range places(s) {
		fails(t, p, api.ErrUnrep)
	}
}

func TestOtherSimpleValues(t *testing.T) {
	for n := range uint64(24) {
		s := head(simple, 0, n)
		if n < 20 || n > 22 {
			unrepresentable(t, s)
		} else {
			ends(t, s, api.OK)
		}
	}
	for n := uint64(32); n < 256; n++ {
		unrepresentable(t, head(simple, 1, n))
	}
}

func TestOtherTags(t *testing.T) {
	behind := []string{"\x00", "\x20", "\x40", "\x41\x05", "\x60", "\x74" + "2013-03-21T20:04:00Z", "\x80", "\xA0", "\xF4", "\xF6", "\xF9\x3C\x00", "\xC2\x41\x05", openBytes + "\x41\x05" + stop, "\x82\x01\x02"}
	for _, n := range []uint64{0, 1, 4, 5, 6, 16, 21, 22, 23, 24, 25, 32, 36, 255, 256, 258, 259, 514, 515, 55799, 65535, 65536, 1 << 17, 1<<32 - 1, 1 << 32, 1<<32 + 2, 1<<33 + 3, 1<<63 + 2, full - 1, full} {
		for _, h := range heads(tag, n) {
			for _, s := range behind {
				unrepresentable(t, h+s)
			}
		}
	}
}

func TestTagsAroundNoByteString(t *testing.T) {
	for _, n := range []uint64{2, 3} {
		for _, h := range heads(tag, n) {
			for _, s := range []string{"\x00", "\x05", "\x20", "\x60", "\x61\x05", "\x61a", openText + "\x61\x05" + stop, openText + stop, "\x80", "\x81\x41\x05", openArray + stop, "\xA0", "\xA1\x60\x41\x05", openMap + stop, "\xF4", "\xF5", "\xF6", "\xF7", "\xF8\x20", "\xF9\x3C\x00", "\xFB\x3F\xF0\x00\x00\x00\x00\x00\x00", "\xC2\x41\x05", "\xC3\x41\x05", "\xC2\x40", "\xC1\x41\x05", "\xD7\x41\x05", "\xC2\xC2\x41\x05", "\xC3\xC2\xC3\x41\x05"} {
				unrepresentable(t, h+s)
			}
		}
	}
}

func TestKeysThatAreNoTexts(t *testing.T) {
	for _, s := range []string{
		"\x00", "\x17", "\x18\x18", "\x1B\xFF\xFF\xFF\xFF\xFF\xFF\xFF\xFF", "\x20", "\x40", "\x41a", openBytes + stop, openBytes + "\x41a" + stop, "\x80", "\x81\x61a", openArray + stop, "\xA0", "\xA1\x61a\x01", openMap + stop, "\xF4", "\xF5", "\xF6", "\xF7", "\xF8\xFF", "\xF9\x3C\x00", "\xFA\x3F\x80\x00\x00", "\xC2\x41\x05", "\xC3\x40", "\xC0\x61a", "\xC2\x61a", "\xC1\xC1\x61a", "\xD8\x20" + openText + stop,
	} {
		for _, value := range []string{"\x00", "\x61a", s} {
			unrepresentable(t, pairs(s, value))
			unrepresentable(t, openMap+s+value+stop)
			unrepresentable(t, pairs(said("a"), value, s, value))
			unrepresentable(t, pairs(s, value, said("a"), value))
			unrepresentable(t, pairs(s, value, s, value)) // twice: they are no names
			unrepresentable(t, openMap+said("a")+value+s+value+said("b")+value+stop)
		}
		for _, p := range []string{pairs(said("a"), "\x00", s, "\x00", said("a"), "\x00"), pairs(pairs(said("a"), "\x00", said("a"), s), "\x00"), pairs(s, pairs(said(""), s, said(""), s))} {
			fails(t, p, api.ErrSyntax) // a name is twice, for all that
		}
	}
}

func TestNumbersTooGreat(t *testing.T) {
	ff, noughts := strings.Repeat("\xFF", 32), strings.Repeat("\x00", 32)
	for _, s := range []string{"\xC3" + blob(ff), "\xC3" + blob("\x00"+ff), "\xC3" + blob(noughts+ff), "\xC2" + blob("\x01"+noughts), "\xC3" + blob("\x01"+noughts), "\xC2" + blob(ff+"\x00"), "\xC3" + blob(ff+ff), "\xC2" + blob(strings.Repeat(ff, 128)), "\xC3" + openBytes + blob(ff[:16]) + blob(ff[:16]) + stop, "\xC2" + openBytes + blob("\x01") + blob(noughts) + stop} {
		unrepresentable(t, s)
		unrepresentable(t, pairs(s, s))
	}
}
