package cbor_test

import (
	"math"
	"strings"
	"testing"

	"entrepot/api"
	"entrepot/cbor"
	"entrepot/json"
	"entrepot/value"
)

// Promise 8.3, and T4 of DOC.md, as far as these two formats go.

func TestScalarsComeBack(t *testing.T) {
	for _, v := range append(append(scattered(3000, (*source).integer), scattered(3000, (*source).float)...), null, no, yes, text(""), raw(""), bits(infinity), bits(sign|infinity), bits(nan)) {
		for _, w := range wrapped(v) {
			comesBack(t, w)
		}
	}
}

func TestValuesComeBack(t *testing.T) {
	for _, v := range scattered(20_000, (*source).ofAnyDepth) {
		comesBack(t, v)
	}
}

func TestEndsOfNumbersComeBack(t *testing.T) {
	for limbs := 1; limbs <= api.Limbs; limbs++ {
		for _, low := range []uint64{0, 1, 2, full - 1, full} {
			for _, top := range []uint64{1, 2, 127, 128, 255, 256, 1<<63 - 1, 1 << 63, full - 1, full} {
				for _, among := range []uint64{0, full} {
					v := plus(low, among, among, among)
					v.Int.N[limbs-1] = top
					clear(v.Int.N[limbs:])
					comesBack(t, v)
					v.Int.Neg = true
					comesBack(t, v)
				}
			}
		}
	}
}

func TestEachCodePointComesBack(t *testing.T) {
	var part strings.Builder
	for c := rune(0); c <= 0x10FFFF+1; c++ {
		if part.Len() > 4000 || c > 0x10FFFF {
			comesBack(t, list(text(part.String()), member(part.String(), null)))
			part.Reset()
		}
		if c < 0xD800 || c > 0xDFFF {
			part.WriteRune(c)
		}
	}
}

func TestGreatValuesComeBack(t *testing.T) {
	long := strings.Repeat("𝄞", 1024)
	for _, v := range []api.Value{
		nested(15, null), nested(15, list()), nested(14, member("a", half)), list(copies(1000, minus(1))...), {Kind: api.KMap, Keys: names(1000), List: copies(1000, half)}, text(long), raw(long), raw(strings.Repeat("\xFF", 4096)), member(long, text(long)), text(strings.Repeat("\x00", 4096)),
		list(append(copies(9, list(copies(999, one)...)), list(copies(998, one)...))...), list(copies(1000, plus(full, full, full, full))...), list(copies(1000, floating(math.Ldexp(1<<53-1, -64)))...),
	} {
		comesBack(t, v)
	}
}

// What is read and written again is written the same once more.
func TestWrittenOnceIsWrittenTwice(t *testing.T) {
	for s, want := range map[string]string{
		"bf 7f6161ff 9f 1b0000000000000001 f93c00 fb8000000000000000 ff 7800 c25800 ff": "a2 60 00 6161 83 01 01 00",
		"a2 626161 c249ffffffffffffffffff 6162 5f4161ff":                                "a2 6162 4161 626161 c249ffffffffffffffffff",
		"c2480102030405060708": "1b0102030405060708", "c34a0000ff00000000000000": "3bff00000000000000", "c3490000ff000000000000": "3b00ff000000000000", "9a00000001 3a00000000": "81 20",
		"fb3ff8000000000000": "f93e00", "fa7f7fffff": "c250ffffff00000000000000000000000000", "fbfff0000000000001": "f97e00", "d80341ff": "38ff",
	} {
		for _, doc := range []string{s, want} {
			v, err := cbor.Decode([]byte(unhex(t, doc)))
			if err != api.OK {
				t.Fatal(doc, err)
			}
			writes(t, v, unhex(t, want))
		}
	}
}

// What both formats can say goes there and back as the same value.
func TestGoesAcross(t *testing.T) {
	n := 0
	for _, v := range scattered(20_000, (*source).ofAnyDepth) {
		b, err := json.Encode(v)
		if err != api.OK {
			continue
		}
		n++
		read, err := json.Decode(b)
		if err != api.OK || !value.Same(read, v) {
			t.Fatalf("%s: %d", show(v), err)
		}
		comesBack(t, read)
	}
	if n < 2000 {
		t.Errorf("of %d alone", n)
	}
	for s, docs := range map[string][]string{"1": {"01", "f93c00", "fa3f800000", "1b0000000000000001", "c24101"}, "0.5": {"f93800", "fa3f000000"}, `{"b":[null,true],"aa":"é"}`: {"a262616162c3a9616282f6f5", "bf61629ff6f5ff6261617f62c3a9ffff"}} {
		for _, doc := range docs {
			v, err := cbor.Decode([]byte(unhex(t, doc)))
			w, otherErr := json.Decode([]byte(s))
			if err != api.OK || otherErr != api.OK || !value.Same(v, w) {
				t.Errorf("%s, %s: %s, %s, %d, %d", s, doc, show(v), show(w), err, otherErr)
			}
		}
	}
}
