package cbor_test

import (
	"math"
	"math/big"
	"reflect"
	"slices"
	"strings"
	"testing"

	"entrepot/api"
	"entrepot/cbor"
	"entrepot/float"
	"entrepot/value"
)

// Promise 8.2.

func TestWritesEachKind(t *testing.T) {
	writes(t, null, "\xF6")
	writes(t, no, "\xF4")
	writes(t, yes, "\xF5")
	writes(t, plus(), "\x00")
	writes(t, plus(7), "\x07")
	writes(t, minus(1), "\x20")
	writes(t, minus(120), "\x38\x77")
	writes(t, half, "\xF9\x38\x00")
	writes(t, text(""), "\x60")
	writes(t, text("aé"), "\x63a\xC3\xA9")
	writes(t, raw(""), "\x40")
	writes(t, raw("a\x00\xFF"), "\x43a\x00\xFF")
	writes(t, list(), "\x80")
	writes(t, object(""), "\xA0")
	writes(t, api.Value{Kind: api.KArray, List: []api.Value{}}, "\x80")
	writes(t, api.Value{Kind: api.KMap, List: []api.Value{}, Keys: []string{}}, "\xA0")
	writes(t, list(null), "\x81\xF6")
	writes(t, list(null, yes, plus(), text(""), list(), object("")), "\x86\xF6\xF5\x00\x60\x80\xA0")
	writes(t, member("", member("a", raw("b"))), "\xA1\x60\xA1\x61a\x41b")
	writes(t, object("a b c", object("x y", no, list(list())), one, text("z")), "\xA3\x61a\xA2\x61x\xF4\x61y\x81\x80\x61b\x01\x61c\x61z")
	writes(t, nested(15, list()), within(15, "\x80"))
	writes(t, nested(15, null), within(15, "\xF6"))
	writes(t, member("m", member("m", one)), withinMaps(2, "\x01"))
}

// Those of RFC 8949's examples that are told in the one way.
func TestWritesExamples(t *testing.T) {
	all := examples()
	for s := range strings.FieldsSeq(`
		00 01 0a 17 1818 1819 1864 1903e8 1a000f4240 1b000000e8d4a51000 1bffffffffffffffff c249010000000000000000 3bffffffffffffffff c349010000000000000000 20 29 3863 3903e7
		fb3ff199999999999a f93e00 fb7e37e43c8800759c f90001 f90400 fbc010666666666666 f97c00 f97e00 f9fc00 f4 f5 f6
		40 4401020304 60 6161 6449455446 62225c 62c3bc 63e6b0b4 64f0908591 80 83010203 8301820203820405 98190102030405060708090a0b0c0d0e0f101112131415161718181819
		a0 a26161016162820203 826161a161626163 a56161614161626142616361436164614461656145`) {
		v, ok := all[s]
		if !ok {
			t.Fatal(s)
		}
		writes(t, v, unhex(t, s))
		writes(t, list(v, v), unhex(t, "82"+s+s))
	}
}

func TestWritesWidthsOfNumbers(t *testing.T) {
	for n, s := range map[uint64]string{
		0: "00", 1: "01", 23: "17", 24: "1818", 25: "1819", 255: "18ff", 256: "190100", 257: "190101", 65535: "19ffff", 65536: "1a00010000", 65537: "1a00010001", 1<<32 - 1: "1affffffff", 1 << 32: "1b0000000100000000", 1<<32 + 1: "1b0000000100000001", 1<<63 - 1: "1b7fffffffffffffff", 1 << 63: "1b8000000000000000", full: "1bffffffffffffffff", 0x0102030405060708: "1b0102030405060708",
	} {
		s := unhex(t, s)
		writes(t, plus(n), s)
		below := string([]byte{s[0] | 0x20}) + s[1:]
		writes(t, less(plus(n)), below)
		writes(t, list(plus(n), less(plus(n))), "\x82"+s+below)
	}
	writes(t, minus(0, 1), "\x3B\xFF\xFF\xFF\xFF\xFF\xFF\xFF\xFF") // -2^64
	for _, n := range widthEnds {
		writes(t, plus(n), heads(unsigned, n)[0])
		writes(t, less(plus(n)), heads(negative, n)[0])
	}
}

func TestWritesGreatNumbers(t *testing.T) {
	for s, v := range map[string]api.Value{
		"49 01 0000000000000000": plus(0, 1), "49 01 0000000000000001": plus(1, 1), "49 01 ffffffffffffffff": plus(full, 1), "49 ff 0102030405060708": plus(0x0102030405060708, 255), "4a 0100 0000000000000000": plus(0, 256), "50 ffffffffffffffff ffffffffffffffff": plus(full, full), "50 8000000000000000 0000000000000000": plus(0, 1<<63),
		"51 01 0000000000000000 0000000000000000": plus(0, 0, 1), "56 010203040506 0708090a0b0c0d0e 0f10111213141516": plus(0x0F10111213141516, 0x0708090A0B0C0D0E, 0x010203040506),
		"57 ffffffffffffff 0000000000000000 0000000000000000": plus(0, 0, 1<<56-1), "5818 ffffffffffffffff 0000000000000000 0000000000000000": plus(0, 0, full), "5819 01 0000000000000000 0000000000000000 0000000000000000": plus(0, 0, 0, 1),
		"5820 ffffffffffffffff ffffffffffffffff ffffffffffffffff fffffffffffffffe": plus(full-1, full, full, full), "5820 8000000000000000 0000000000000000 0000000000000000 0000000000000000": plus(0, 0, 0, 1<<63),
	} {
		writes(t, v, "\xC2"+unhex(t, s))
		writes(t, less(v), "\xC3"+unhex(t, s))
		writes(t, member("a", less(v)), "\xA1\x61a\xC3"+unhex(t, s))
	}
	ff := strings.Repeat("\xFF", 31)
	writes(t, plus(full, full, full, full), "\xC2\x58\x20"+ff+"\xFF")
	writes(t, minus(full, full, full, full), "\xC3\x58\x20"+ff+"\xFE")
	for k := range uint(256) {
		for _, d := range []int64{-2, -1, 0, 1, 2} {
			n := new(big.Int).Lsh(big.NewInt(1), k)
			n.Add(n, big.NewInt(d))
			writes(t, integer(n), numberBytes(n))
			writes(t, integer(n.Neg(n)), numberBytes(n))
		}
	}
}

// numberBytes is a whole number's bytes.
func numberBytes(n *big.Int) string {
	major, great := unsigned, uint64(2)
	if n.Sign() < 0 {
		n, major, great = new(big.Int).Not(n), negative, 3
	}
	if n.IsUint64() {
		return heads(major, n.Uint64())[0]
	}
	return head(tag, 0, great) + blob(string(n.Bytes()))
}

func TestWritesFloats(t *testing.T) {
	for s, f := range map[string]float64{
		"f93800": 0.5, "f9b800": -0.5, "f93801": 0.5 + math.Ldexp(1, -11), "f93e00": 1.5, "f94248": 3.140625, "f963ff": 1023.5, "f9e3ff": -1023.5, "f90001": math.Ldexp(1, -24), "f98001": -math.Ldexp(1, -24), "f903ff": math.Ldexp(1023, -24), "f90400": math.Ldexp(1, -14), "f90401": math.Ldexp(1025, -24), "f93bff": math.Ldexp(2047, -11), "f97c00": math.Inf(1), "f9fc00": math.Inf(-1), "f97e00": math.NaN(),
		"fa3f001000": 0.5 + math.Ldexp(1, -12), "fa3f000001": 0.5 + math.Ldexp(1, -24), "fa33000000": math.Ldexp(1, -25), "fa33c00000": math.Ldexp(3, -25), "fa00000001": math.Ldexp(1, -149), "fa80000001": -math.Ldexp(1, -149), "fa007fffff": math.Ldexp(1<<23-1, -149), "fa00800000": math.Ldexp(1, -126), "fa3dcccccd": float64(float32(0.1)), "fabdcccccd": float64(float32(-0.1)), "fa44800800": 1024.25, "fa45000800": 2048.5, "fa4affffff": 8388607.5,
		"fb3fb999999999999a": 0.1, "fbbfb999999999999a": -0.1, "fb3fe0000010000000": 0.5 + math.Ldexp(1, -25), "fb4160000010000000": 8388608.5, "fb3690000000000000": math.Ldexp(1, -150), "fb36a8000000000000": math.Ldexp(3, -150), "fb380fffffffffffff": math.Float64frombits(0x380FFFFFFFFFFFFF), "fb0010000000000000": math.Ldexp(1, -1022), "fb000fffffffffffff": math.Float64frombits(1<<52 - 1), "fb0000000000000001": 5e-324, "fb4ff0000000000000": math.Ldexp(1, 256), "fbcff0000000000000": -math.Ldexp(1, 256), "fb7fefffffffffffff": math.MaxFloat64, "fbffefffffffffffff": -math.MaxFloat64,
	} {
		v := floating(f)
		if f != f {
			v = bits(nan)
		}
		writes(t, v, unhex(t, s))
		writes(t, list(v, v), unhex(t, "82"+s+s))
		reads(t, unhex(t, s), v)
	}
}

// halves is all that have a half, by their bits.
func halves() map[uint64]uint64 {
	out := map[uint64]uint64{nan: 0x7E00}
	for h := range uint64(1 << 16) {
		if f := halfOf(h); f == f {
			out[math.Float64bits(f)] = h
		}
	}
	return out
}

// floatBytes is a float's bytes.
func floatBytes(b uint64, halves map[uint64]uint64) string {
	f := math.Float64frombits(b)
	if h, ok := halves[b]; ok {
		return head(simple, 2, h)
	}
	if float64(float32(f)) == f {
		return head(simple, 4, uint64(math.Float32bits(float32(f))))
	}
	return head(simple, 8, b)
}

func TestWritesManyFloats(t *testing.T) {
	all := halves()
	for b := range all {
		for _, near := range []uint64{b, b + 1, b - 1, b ^ 1<<29, b ^ 1<<28, b ^ 1<<41, b ^ 1<<42} {
			if f := math.Float64frombits(near); f == f {
				v := number(f)
				if v.Kind == api.KFloat {
					writes(t, v, floatBytes(near, all))
				}
			}
		}
	}
	for _, v := range scattered(30_000, (*source).float) {
		writes(t, v, floatBytes(v.Bits, all))
	}
}

func TestWritesWidthsOfLengths(t *testing.T) {
	for n, want := range map[int][]string{
		0: {"40", "60", "80", "a0"}, 1: {"41", "61", "81", "a1"}, 23: {"57", "77", "97", "b7"}, 24: {"5818", "7818", "9818", "b818"}, 255: {"58ff", "78ff", "98ff", "b8ff"}, 256: {"590100", "790100", "990100", "b90100"}, 1000: {"5903e8", "7903e8", "9903e8", "b903e8"}, 4096: {"591000", "791000"},
	} {
		data := strings.Repeat("a", n)
		writes(t, raw(data), unhex(t, want[0])+data)
		writes(t, text(data), unhex(t, want[1])+data)
		writes(t, member(data, null), "\xA1"+unhex(t, want[1])+data+"\xF6")
		if n <= 1000 {
			writes(t, list(copies(n, null)...), unhex(t, want[2])+strings.Repeat("\xF6", n))
			writes(t, api.Value{Kind: api.KMap, Keys: names(n), List: copies(n, null)}, unhex(t, want[3])+strings.TrimPrefix(wide(n, "\xF6"), shortest(mapping, n)))
		}
	}
}

// Shorter names first, then by their bytes.
func TestNamesInTheirOrder(t *testing.T) {
	keys := []string{"", "10", "9", "A", "B", "a", "a\x00", "aa", "aaa", "ab", "b", "z", "\x7F", "é", "€", "\uFFFD", "\U00010000"}
	v := api.Value{Kind: api.KMap, Keys: keys}
	want := shortest(mapping, len(keys))
	for i := range keys {
		v.List = append(v.List, plus(uint64(i)))
	}
	for _, name := range []string{"", "9", "A", "B", "a", "b", "z", "\x7F", "10", "a\x00", "aa", "ab", "é", "aaa", "€", "\uFFFD", "\U00010000"} {
		want += said(name) + shortest(unsigned, slices.Index(keys, name))
	}
	writes(t, v, want)
	writes(t, list(v, member("x", v)), "\x82"+want+"\xA1\x61x"+want)

	long := func(n int, last string) string { return strings.Repeat("a", n-1) + last }
	keys = []string{long(300, "a"), long(300, "b"), long(256, "c"), long(255, "d"), long(24, "e"), long(24, "f"), long(23, "g"), "b", long(4096, "\x00"), "c"}
	writes(t, mapOf(keys...), "\xAA"+members("b", "c", long(23, "g"), long(24, "e"), long(24, "f"), long(255, "d"), long(256, "c"), long(300, "a"), long(300, "b"), long(4096, "\x00")))
	writes(t, api.Value{Kind: api.KMap, Keys: names(1000), List: copies(1000, null)}, wide(1000, "\xF6"))
}

// mapOf is a map of names to nulls.
func mapOf(names ...string) api.Value {
	return api.Value{Kind: api.KMap, Keys: slices.Sorted(slices.Values(names)), List: copies(len(names), null)}
}

// members is the bytes of such a map behind its head.
func members(names ...string) string {
	out := ""
	for _, name := range names {
		out += said(name) + "\xF6"
	}
	return out
}

// written is a value's bytes; its names are put in order by what is written of them.
func written(v api.Value, halves map[uint64]uint64) string {
	switch v.Kind {
	case api.KBool:
		return head(simple, 0, 20+v.Bits)
	case api.KInt:
		return numberBytes(bigOf(v.Int))
	case api.KFloat:
		return floatBytes(v.Bits, halves)
	case api.KText:
		return said(v.Text)
	case api.KBytes:
		return blob(v.Text)
	}
	var out []string
	for i, e := range v.List {
		name := ""
		if v.Kind == api.KMap {
			name = said(v.Keys[i])
		}
		out = append(out, name+written(e, halves))
	}
	switch v.Kind {
	case api.KArray:
		return items(out...)
	case api.KMap:
		slices.Sort(out) // names differ, and none is the beginning of another, by their heads
		return shortest(mapping, len(out)) + strings.Join(out, "")
	}
	return "\xF6"
}

func TestWritesManyValues(t *testing.T) {
	all := halves()
	for _, v := range scattered(20_000, (*source).ofAnyDepth) {
		writes(t, v, written(v, all))
	}
}

func TestWhatMayNotBe(t *testing.T) {
	for _, v := range []api.Value{
		{}, {Kind: -1}, {Kind: 9}, {Kind: math.MaxInt}, {Kind: api.KBool, Bits: 2}, minus(), {Kind: api.KFloat}, floating(1), floating(math.Copysign(0, -1)), {Kind: api.KFloat, Bits: float.NaN + 1}, {Kind: api.KFloat, Bits: sign | float.NaN}, text("\xFF"), text("\xED\xA0\x80"),
		member("\xFF", null), object("b a", null, null), object("a a", null, null), object("bb aaa", null, null), object("a", null, null), object("a b", null), {Kind: api.KNull, Text: "x"}, {Kind: api.KNull, List: copies(1, null)}, {Kind: api.KArray, Keys: names(1)}, {Kind: api.KText, Bits: 1}, {Kind: api.KInt, Bits: 1}, {Kind: api.KBytes, Bits: 1},
	} {
		for _, w := range wrapped(v) {
			refuses(t, w, api.ErrArg)
		}
	}
	crowd, long := list(copies(1001, null)...), text(strings.Repeat("a", 4097))
	for _, v := range []api.Value{
		crowd, {Kind: api.KMap, Keys: names(1001), List: copies(1001, null)}, long, raw(long.Text), member(long.Text, null), list(copies(11, list(copies(950, null)...))...),
	} {
		for _, w := range wrapped(v) {
			refuses(t, w, api.ErrLimit)
		}
	}
	for n := 16; n < 20; n++ {
		for _, v := range []api.Value{nested(n, null), member("a", nested(n, half)), list(nested(n, crowd)), nested(n, long), nested(n, api.Value{}), nested(n, raw(""))} {
			refuses(t, v, api.ErrDepth)
		}
	}
	refuses(t, nested(60_000, null), api.ErrDepth)
}

func TestFirstErrorOfEncode(t *testing.T) {
	wrong, long := api.Value{}, text(strings.Repeat("a", 4097))
	great := list(copies(30, text(strings.Repeat("a", 4096)))...) // that would be too long
	deep := nested(16, null)
	for _, c := range []struct {
		want int
		l    []api.Value
	}{
		{api.ErrDepth, []api.Value{wrong, long, great, deep}}, {api.ErrDepth, []api.Value{deep, wrong}}, {api.ErrDepth, []api.Value{great, deep}},
		{api.ErrLimit, []api.Value{wrong, long}}, {api.ErrLimit, []api.Value{long, wrong}},
		{api.ErrArg, []api.Value{great, wrong}}, {api.ErrArg, []api.Value{wrong, great}}, {api.ErrArg, []api.Value{great, great, minus()}},
		{api.ErrLimit, []api.Value{great}}, {api.ErrLimit, []api.Value{null, great, null}},
	} {
		refuses(t, list(c.l...), c.want)
		refuses(t, api.Value{Kind: api.KMap, Keys: names(len(c.l)), List: c.l}, c.want)
	}
}

// Items of 65,536 bytes and of one more, whatever stands last in them.
func TestLongestItem(t *testing.T) {
	ahead := copies(15, text(strings.Repeat("a", 4096))) // 61,485 bytes, with their heads
	const left = 65_536 - 61_485 - len("\x91")           // heads of texts of so many bytes have three
	letters := func(n int) string { return strings.Repeat("b", n-3) }
	for _, ending := range []func(n int) []api.Value{ // of n bytes
		func(n int) []api.Value { return []api.Value{text(letters(n))} },
		func(n int) []api.Value { return []api.Value{raw(letters(n))} },
		func(n int) []api.Value { return []api.Value{text(letters(n - 2)), plus(100)} },
		func(n int) []api.Value { return []api.Value{text(letters(n - 11)), plus(0, 1)} },
		func(n int) []api.Value { return []api.Value{text(letters(n - 3)), half} },
		func(n int) []api.Value { return []api.Value{text(letters(n - 9)), floating(0.1)} },
		func(n int) []api.Value { return []api.Value{text(letters(n - 1)), yes} },
		func(n int) []api.Value { return []api.Value{text(letters(n - 1)), null} },
		func(n int) []api.Value { return []api.Value{text(letters(n - 1)), list()} },
		func(n int) []api.Value { return []api.Value{text(letters(n - 1)), object("")} },
		func(n int) []api.Value { return []api.Value{member(letters(n-2), plus(7))} },
		func(n int) []api.Value { return []api.Value{list(list(text(letters(n - 2))))} },
	} {
		v := list(append(ahead, ending(left)...)...)
		if b, err := cbor.Encode(v); err != api.OK || len(b) != 65_536 {
			t.Errorf("%d bytes, %d: %s", len(b), err, show(list(ending(left)...)))
		}
		comesBack(t, v)
		refuses(t, list(append(ahead, ending(left+1)...)...), api.ErrLimit)
		refuses(t, list(append(ahead, ending(left+2)...)...), api.ErrLimit)
	}
}

// What holds the same long texts many times is told without writing all of it.
func TestEncodeEndsSoon(t *testing.T) {
	long := strings.Repeat("\x00", 4096)
	refuses(t, list(copies(500, list(copies(9, member(long, text(long)))...))...), api.ErrLimit)
	refuses(t, api.Value{Kind: api.KMap, Keys: names(900), List: copies(900, list(copies(10, raw(long))...))}, api.ErrLimit)
	v := null
	for range 60 {
		v = list(v, v)
	}
	refuses(t, v, api.ErrDepth)
}

func TestEncodeAnswersNewMemory(t *testing.T) {
	v := object("aa b", list(one, text("xyz")), raw("q\n"))
	kept := object("aa b", list(one, text("xyz")), raw("q\n"))
	b, _ := cbor.Encode(v)
	c, _ := cbor.Encode(v)
	for i := range b {
		b[i] = 'x'
	}
	_ = append(b[:0], "yyyyyyyyyyyyyyyyyyyyyyyyyy"...)
	if string(c) != "\xA2\x61b\x42q\n\x62aa\x82\x01\x63xyz" || !reflect.DeepEqual(v, kept) {
		t.Errorf("%x, %s", c, show(v))
	}
}

func TestAllThatIsInCBORIsWritten(t *testing.T) {
	for _, v := range scattered(3000, (*source).ofAnyDepth) {
		if _, err := cbor.Encode(v); err != api.OK || !value.In(v, api.CBOR) {
			t.Errorf("Encode(%s): %d", show(v), err)
		}
	}
}
