package cbor_test

import (
	"math"
	"slices"
	"strings"
	"testing"

	"entrepot/api"
	"entrepot/cbor"
	"entrepot/value"
)

// Promise 8.1: what is read.

func TestEachKind(t *testing.T) {
	reads(t, "\xF6", null)
	reads(t, "\xF4", no)
	reads(t, "\xF5", yes)
	reads(t, "\x07", plus(7))
	reads(t, "\x26", minus(7))
	reads(t, "\xF9\x41\x00", floating(2.5))
	reads(t, "\x60", text(""))
	reads(t, "\x62\xC3\xA9", text("é"))
	reads(t, "\x40", raw(""))
	reads(t, "\x43a\x00\xFF", raw("a\x00\xFF"))
	reads(t, "\x80", list())
	reads(t, "\xA0", object(""))
	reads(t, "\x86\xF6\xF5\x00\x60\x80\xA0", list(null, yes, plus(), text(""), list(), object("")))
	reads(t, "\xA1\x61a\xF6", member("a", null))
	reads(t, "\xA1\x60\xA1\x60\x40", member("", member("", raw(""))))
	reads(t, "\xA2\x61a\x82\x01\xA1\x61b\x81\x80\x61c\xA2\x61d\xA0\x61e\x81\xA0", object("a c", list(one, member("b", list(list()))), object("d e", object(""), list(object("")))))
	reads(t, "\x83\xA1\x61a\x01\xA1\x61a\x01\xA1\x61a\xA1\x61a\x01", list(member("a", one), member("a", one), member("a", member("a", one)))) // a name in each of them, not twice in one
}

// examples is those of RFC 8949's appendix A that can be had, in its order.
func examples() map[string]api.Value {
	some := list()
	for i := range uint64(25) {
		some.List = append(some.List, plus(i+1))
	}
	oneToFive := list(one, list(plus(2), plus(3)), list(plus(4), plus(5)))
	letters := object("a b c d e", text("A"), text("B"), text("C"), text("D"), text("E"))
	return map[string]api.Value{
		"00": plus(), "01": one, "0a": plus(10), "17": plus(23), "1818": plus(24), "1819": plus(25), "1864": plus(100), "1903e8": plus(1000), "1a000f4240": plus(1_000_000), "1b000000e8d4a51000": plus(1_000_000_000_000),
		"1bffffffffffffffff": plus(full), "c249010000000000000000": plus(0, 1), "3bffffffffffffffff": minus(0, 1), "c349010000000000000000": minus(1, 1), "20": minus(1), "29": minus(10), "3863": minus(100), "3903e7": minus(1000),
		"f90000": plus(), "f98000": plus(), "f93c00": one, "fb3ff199999999999a": floating(1.1), "f93e00": floating(1.5), "f97bff": plus(65504), "fa47c35000": plus(100_000), "fa7f7fffff": plus(0, 1<<64-1<<40), "fb7e37e43c8800759c": floating(1e300),
		"f90001": floating(5.960464477539063e-8), "f90400": floating(0.00006103515625), "f9c400": minus(4), "fbc010666666666666": floating(-4.1),
		"f97c00": bits(infinity), "f97e00": bits(nan), "f9fc00": bits(sign | infinity), "fa7f800000": bits(infinity), "fa7fc00000": bits(nan), "faff800000": bits(sign | infinity), "fb7ff0000000000000": bits(infinity), "fb7ff8000000000000": bits(nan), "fbfff0000000000000": bits(sign | infinity),
		"f4": no, "f5": yes, "f6": null, "40": raw(""), "4401020304": raw("\x01\x02\x03\x04"), "60": text(""), "6161": text("a"), "6449455446": text("IETF"), "62225c": text("\"\\"), "62c3bc": text("\u00fc"), "63e6b0b4": text("\u6c34"), "64f0908591": text("\U00010151"),
		"80": list(), "83010203": list(one, plus(2), plus(3)), "8301820203820405": oneToFive, "98190102030405060708090a0b0c0d0e0f101112131415161718181819": some,
		"a0": object(""), "a26161016162820203": object("a b", one, list(plus(2), plus(3))), "826161a161626163": list(text("a"), member("b", text("c"))), "a56161614161626142616361436164614461656145": letters,
		"5f42010243030405ff": raw("\x01\x02\x03\x04\x05"), "7f657374726561646d696e67ff": text("streaming"), "9fff": list(), "9f018202039f0405ffff": oneToFive, "9f01820203820405ff": oneToFive, "83018202039f0405ff": oneToFive, "83019f0203ff820405": oneToFive,
		"9f0102030405060708090a0b0c0d0e0f101112131415161718181819ff": some, "bf61610161629f0203ffff": object("a b", one, list(plus(2), plus(3))), "826161bf61626163ff": list(text("a"), member("b", text("c"))), "bf6346756ef563416d7421ff": object("Amt Fun", minus(2), yes),
	}
}

func TestExamples(t *testing.T) {
	for s, want := range examples() {
		for _, w := range wrapped(want) {
			comesBack(t, w)
		}
		s = unhex(t, s)
		reads(t, s, want)
		reads(t, items(s, "\xF6", s), list(want, null, want))
		reads(t, openArray+s+s+stop, list(want, want))
		reads(t, pairs(said("a"), s, said("b"), s), object("a b", want, want))
		reads(t, openMap+said("b")+s+said("a")+s+stop, object("a b", want, want))
		reads(t, within(4, withinMaps(4, withinOpen(4, s))), nested(4, member("m", member("m", member("m", member("m", nested(4, want)))))))
	}
}

// widthEnds is the numbers at the ends of each width that heads have.
var widthEnds = []uint64{0, 1, 22, 23, 24, 25, 254, 255, 256, 257, 65534, 65535, 65536, 65537, 1<<32 - 2, 1<<32 - 1, 1 << 32, 1<<32 + 1, 1<<63 - 1, 1 << 63, full - 1, full}

func TestWidthsOfNumbers(t *testing.T) {
	for _, n := range widthEnds {
		below := minus(n + 1)
		if n == full {
			below = minus(0, 1)
		}
		for _, s := range heads(unsigned, n) {
			reads(t, s, plus(n))
			reads(t, items(s, s), list(plus(n), plus(n)))
		}
		for _, s := range heads(negative, n) {
			reads(t, s, below)
			reads(t, items(s, s), list(below, below))
		}
	}
	for at := range 8 { // each of its bytes in its place
		n := uint64(0x7B) << (8 * at)
		reads(t, head(unsigned, 8, n), plus(n))
		reads(t, head(negative, 8, n), minus(n+1))
	}
}

func TestWidthsOfLengths(t *testing.T) {
	for _, n := range []int{0, 1, 2, 22, 23, 24, 25, 254, 255, 256, 257, 1000} {
		data := strings.Repeat("ab", n)[:n]
		for _, h := range heads(byteString, uint64(n)) {
			reads(t, h+data, raw(data))
			reads(t, openBytes+h+data+stop, raw(data))
			reads(t, "\xC2"+h+strings.Repeat("\x00", n), plus())
		}
		for _, h := range heads(textString, uint64(n)) {
			reads(t, h+data, text(data))
			reads(t, openText+h+data+stop, text(data))
			reads(t, "\xA1"+h+data+"\x01", member(data, one))
		}
		for _, h := range heads(array, uint64(n)) {
			reads(t, h+strings.Repeat("\x20", n), list(copies(n, minus(1))...))
		}
		for _, h := range heads(mapping, uint64(n)) {
			reads(t, h+strings.TrimPrefix(wide(n, "\xF5"), shortest(mapping, n)), api.Value{Kind: api.KMap, Keys: names(n), List: copies(n, yes)})
		}
	}
	for i, h := range heads(tag, 2) {
		reads(t, h+"\x41\x05", plus(5))
		reads(t, heads(tag, 3)[i]+"\x41\x05", minus(6))
	}
}

// Whatever is told by its length is the same without it.
func TestOpenInOneAnother(t *testing.T) {
	forms := func(l ...string) []string {
		all := strings.Join(l, "")
		return []string{shortest(array, len(l)) + all, head(array, 8, uint64(len(l))) + all, openArray + all + stop}
	}
	mapForms := func(l ...string) []string {
		all := strings.Join(l, "")
		return []string{shortest(mapping, len(l)/2) + all, head(mapping, 4, uint64(len(l)/2)) + all, openMap + all + stop}
	}
	for _, a := range forms("\x01", "\x60") {
		for _, b := range mapForms("\x61b", a, "\x61a", openText+"\x61x\x61y"+stop) {
			for _, c := range forms(b, a, openBytes+stop) {
				for _, d := range mapForms("\x61d", c, "\x62dd", b, openText+"\x60\x61c"+stop, "\xF4") {
					first, second := list(one, text("")), object("a b", text("xy"), list(one, text("")))
					reads(t, d, object("c d dd", no, list(second, first, raw("")), second))
				}
			}
		}
	}
	reads(t, openArray+stop, list())
	reads(t, openMap+stop, object(""))
	reads(t, openArray+openMap+stop+openArray+stop+"\x80"+stop, list(object(""), list(), list()))
	reads(t, strings.Repeat(openArray, 16)+strings.Repeat(stop, 16), nested(15, list()))
}

func TestChunks(t *testing.T) {
	reads(t, openBytes+stop, raw(""))
	reads(t, openText+stop, text(""))
	reads(t, openBytes+strings.Repeat("\x40", 1000)+stop, raw(""))
	reads(t, openText+strings.Repeat("\x78\x00", 1000)+stop, text(""))
	reads(t, openBytes+strings.Repeat("\x41\xC3", 1000)+stop, raw(strings.Repeat("\xC3", 1000)))
	reads(t, openText+strings.Repeat("\x62\xC3\xA9", 1000)+stop, text(strings.Repeat("é", 1000)))
	s := "aé€𝄞z"
	for i := range len(s) + 1 {
		for j := i; j <= len(s); j++ {
			for _, a := range heads(byteString, uint64(i)) {
				reads(t, openBytes+a+s[:i]+blob(s[i:j])+blob(s[j:])+stop, raw(s))
			}
			if atPoint(s, i) && atPoint(s, j) {
				chunks := openText + said(s[:i]) + said(s[i:j]) + said(s[j:]) + stop
				reads(t, chunks, text(s))
				reads(t, pairs(chunks, "\x01"), member(s, one))
			}
		}
	}
	reads(t, "\xC2"+openBytes+"\x41\x01\x40\x42\x02\x03"+stop, plus(0x010203))
	reads(t, "\xC3"+openBytes+stop, minus(1))
}

// atPoint is whether a code point begins there, or s ends.
func atPoint(s string, at int) bool { return at == len(s) || s[at]>>6 != 0b10 }

func TestFloatsOfEachWidth(t *testing.T) {
	for s, want := range map[string]api.Value{
		"f93800 fa3f000000 fb3fe0000000000000": half, "f9b800 fabf000000 fbbfe0000000000000": floating(-0.5), "f93e00 fa3fc00000 fb3ff8000000000000": floating(1.5), "f94248 fa40490000 fb4009200000000000": floating(3.140625), "f90001 fa33800000 fb3e70000000000000": floating(math.Ldexp(1, -24)),
		"f903ff fa387fc000 fb3f0ff80000000000": floating(math.Ldexp(1023, -24)), "f90400 fa38800000 fb3f10000000000000": floating(math.Ldexp(1, -14)), "f93bff fa3f7fe000 fb3feffc0000000000": floating(math.Ldexp(2047, -11)),
		"fa33000000 fb3e60000000000000": floating(math.Ldexp(1, -25)), "fa3f000001 fb3fe0000020000000": floating(0.5 + math.Ldexp(1, -24)), "fa00000001 fb36a0000000000000": floating(math.Ldexp(1, -149)), "fa007fffff fb380fffffc0000000": floating(math.Ldexp(1<<23-1, -149)), "fa3dcccccd fb3fb99999a0000000": floating(float64(float32(0.1))),
		"fb3fb999999999999a": floating(0.1), "fb0000000000000001": bits(1), "fb7fefffffffffffff": floating(math.MaxFloat64), "fb3fe0000000000001": bits(0x3FE0000000000001), "fb4ff0000000000000": floating(math.Ldexp(1, 256)),

		"f93c00 fa3f800000 fb3ff0000000000000 01": one, "f9bc00 fabf800000 fbbff0000000000000 20": minus(1), "f90000 fa00000000 fb0000000000000000 f98000 fa80000000 fb8000000000000000 00": plus(), "f97bff fa477fe000 fb40effc0000000000": plus(65504), "f96400 fa44800000 fb4090000000000000": plus(1024),
		"fa47800000 fb40f0000000000000": plus(65536), "fa4b800000 fb4170000000000000": plus(1 << 24), "fa5f800000 fb43f0000000000000 c249010000000000000000": plus(0, 1), "fadf800000 fbc3f0000000000000": minus(0, 1), "fb4340000000000000": plus(1 << 53), "fb433fffffffffffff": plus(1<<53 - 1), "fb4fe0000000000000": plus(0, 0, 0, 1<<63), "fbcfefffffffffffff": minus(0, 0, 0, 1<<64-1<<11),

		"f97c00 fa7f800000 fb7ff0000000000000": bits(infinity), "f9fc00 faff800000 fbfff0000000000000": bits(sign | infinity),
		"f97e00 f97c01 f97dff f97fff f9fe00 f9fc01 f9ffff fa7fc00000 fa7f800001 faffc00000 fa7fffffff faffffffff fb7ff8000000000000 fb7ff0000000000001 fbfff8000000000000 fbfff0000000000001 fbffffffffffffffff fb7fffffffffffffff": bits(nan),
	} {
		for s := range strings.FieldsSeq(s) {
			s = unhex(t, s)
			reads(t, s, want)
			reads(t, items(s, s), list(want, want))
			reads(t, pairs(said("a"), s), member("a", want))
		}
	}
}

func TestManyFloats(t *testing.T) {
	for h := range uint64(1 << 16) {
		reads(t, head(simple, 2, h), number(halfOf(h)))
	}
	var s source
	for range 20_000 {
		w := uint32(s.word())
		reads(t, head(simple, 4, uint64(w)), number(float64(math.Float32frombits(w))))
		b := s.word()
		reads(t, head(simple, 8, b), number(math.Float64frombits(b)))
		f := math.Ldexp(float64(s.word()>>11), s.below(400)-120) // whole or not, small or great
		reads(t, head(simple, 8, math.Float64bits(f)), number(f))
		reads(t, head(simple, 8, math.Float64bits(-f)), number(-f))
	}
}

func TestTagsOfNumbers(t *testing.T) {
	ff := func(n int) string { return strings.Repeat("\xFF", n) }
	noughts := func(n int) string { return strings.Repeat("\x00", n) }
	for s, want := range map[string]api.Value{
		"": plus(), "\x00": plus(), "\x01": one, "\x05": plus(5), "\x00\x05": plus(5), "\xFF": plus(255), "\x01\x00": plus(256), "\x00\xFF\x00": plus(0xFF00), "\x01\x02\x03\x04\x05\x06\x07\x08": plus(0x0102030405060708),
		ff(8): plus(full), "\x01" + noughts(8): plus(0, 1), "\x00\x01" + noughts(8): plus(0, 1), "\x01" + noughts(7) + "\x01": plus(1, 1), "\x01" + ff(8): plus(full, 1), ff(9): plus(full, 255),
		"\x0A\x0B\x0C\x0D\x0E\x0F\x10\x11\x01\x02\x03\x04\x05\x06\x07\x08": plus(0x0102030405060708, 0x0A0B0C0D0E0F1011), ff(16): plus(full, full), "\x01" + noughts(16): plus(0, 0, 1), ff(24): plus(full, full, full), "\x01" + noughts(24): plus(0, 0, 0, 1), ff(31): plus(full, full, full, full>>8), "\x80" + noughts(31): plus(0, 0, 0, 1<<63),
		ff(31) + "\xFE": plus(full-1, full, full, full), "\xFE" + ff(31): plus(full, full, full, 0xFEFFFFFFFFFFFFFF), "\x00" + ff(31): plus(full, full, full, full>>8), noughts(20): plus(), noughts(4096): plus(), noughts(4095) + "\x07": plus(7),
	} {
		for _, ahead := range []string{"", "\x00", noughts(40)} {
			if len(ahead+s) <= 4096 {
				reads(t, "\xC2"+blob(ahead+s), want)
				reads(t, "\xC3"+blob(ahead+s), less(want))
				reads(t, items("\xC2"+blob(ahead+s), "\xC3"+blob(ahead+s)), list(want, less(want)))
				reads(t, pairs(said("a"), "\xD9\x00\x02"+head(byteString, 4, uint64(len(ahead+s)))+ahead+s), member("a", want))
			}
		}
	}
	top := plus(full, full, full, full)
	for _, ahead := range []int{0, 1, 31, 32, 33, 4064} {
		reads(t, "\xC2"+blob(noughts(ahead)+ff(32)), top)
		reads(t, "\xC3"+blob(noughts(ahead)+ff(31)+"\xFE"), minus(full, full, full, full)) // -2^256 + 1
		fails(t, "\xC3"+blob(noughts(ahead)+ff(32)), api.ErrUnrep)                         // -2^256
	}
	for _, ahead := range []int{0, 1, 4063} {
		for _, s := range []string{"\x01" + noughts(32), "\x01" + ff(32), ff(33), "\x80" + noughts(32)} {
			fails(t, "\xC2"+blob(noughts(ahead)+s), api.ErrUnrep)
			fails(t, "\xC3"+blob(noughts(ahead)+s), api.ErrUnrep)
		}
	}
	fails(t, "\xC2"+blob(ff(4096)), api.ErrUnrep)
}

// less is -1 - n.
func less(v api.Value) api.Value {
	return integer(bigOf(v.Int).Not(bigOf(v.Int)))
}

func TestNames(t *testing.T) {
	bytewise := []string{"", "\x00", "\x00\x00", "\x01", " ", "0", "10", "9", "A", "Za", "a", "a\x00", "aa", strings.Repeat("a", 24), strings.Repeat("a", 300), "ab", "b", "\x7F", "é", "é€", "€", "\uE000", "\uFFFD", "\U00010000", "\U0010FFFF"}
	want := api.Value{Kind: api.KMap, Keys: bytewise}
	members := make([]string, len(bytewise))
	for i, name := range bytewise {
		want.List = append(want.List, plus(uint64(i)))
		members[i] = said(name) + shortest(unsigned, i)
	}
	h := shortest(mapping, len(members))
	var s source
	for range 200 {
		reads(t, h+strings.Join(members, ""), want)
		reads(t, openMap+strings.Join(members, "")+stop, want)
		slices.SortFunc(members, func(string, string) int { return s.below(3) - 1 })
	}
	reads(t, "\xA3\x61c\x03\x78\x01a\x01\x7F\x61b\xFF\x02", object("a b c", one, plus(2), plus(3)))
}

// saidOtherwise is a text's bytes in several ways: by heads of each width, and in chunks.
func saidOtherwise(s string) []string {
	out := []string{openText + said(s) + stop, openText + "\x60" + said(s) + "\x60" + stop}
	out = append(out, heads(textString, uint64(len(s)))...)
	for i := range out[2:] {
		out[2+i] += s
	}
	for i := range len(s) {
		if atPoint(s, i) {
			out = append(out, openText+said(s[:i])+said(s[i:])+stop)
		}
	}
	return out
}

func TestNamesTwice(t *testing.T) {
	for _, name := range []string{"", "a", "ab", "é", "a€b", strings.Repeat("x", 30)} {
		for _, a := range saidOtherwise(name) {
			for _, b := range saidOtherwise(name) {
				for _, s := range []string{pairs(a, "\x01", b, "\x02"), pairs(a, "\x01", b, "\x01"), pairs(said("0"), "\x01", a, "\x02", said("zz"), "\x03", b, "\x04"), openMap + a + "\x01" + b + "\x02" + stop, openMap + a + "\x01" + said("0") + "\x02" + b + "\x02" + stop} {
					fails(t, s, api.ErrSyntax)
				}
				reads(t, items(pairs(a, "\x01"), pairs(b, "\x01")), list(member(name, one), member(name, one)))
				reads(t, pairs(a, pairs(b, "\x01")), member(name, member(name, one)))
				reads(t, pairs(a, "\x01", said(name+"'"), b), api.Value{Kind: api.KMap, Keys: []string{name, name + "'"}, List: []api.Value{one, text(name)}})
			}
			for _, p := range places(pairs(a, "\x01", said("q"), "\x02", a, "\x03")) {
				fails(t, p, api.ErrSyntax)
			}
		}
	}
	for _, s := range []string{pairs(said("a"), "\x01", said("A"), "\x01"), pairs(said("a"), "\x01", said("a\x00"), "\x01"), pairs(said("é"), "\x01", said("e\u0301"), "\x01"), pairs(said(""), "\x01", said("\x00"), "\x01"), pairs(said("a"), said("a"), said("b"), said("a"))} {
		for _, p := range places(s) {
			ends(t, p, api.OK)
		}
	}
	most := strings.TrimPrefix(wide(999, "\x01"), shortest(mapping, 999))
	ends(t, shortest(mapping, 1000)+most+said("a")+"\x01", api.OK)
	for _, name := range []string{"10000", "10500", "10998"} {
		fails(t, shortest(mapping, 1000)+most+said(name)+"\x01", api.ErrSyntax)
		fails(t, shortest(mapping, 1000)+said(name)+"\x01"+most, api.ErrSyntax)
		fails(t, openMap+most+said(name)+"\x01"+stop, api.ErrSyntax)
	}
}

// What is handed in is neither changed nor kept, and no list of an answer holds another's memory.
func TestDecodeAnswersNewMemory(t *testing.T) {
	s := pairs(said("name"), items(said("text"), blob("more"), "\x81\x01", "\x81\x02"), openText+said("ot")+said("her")+stop, openBytes+blob("lo")+blob("ng")+stop)
	want := object("name other", list(text("text"), raw("more"), list(one), list(plus(2))), raw("long"))
	b := []byte(s)
	v, _ := cbor.Decode(b)
	w, _ := cbor.Decode(b)
	if string(b) != s {
		t.Errorf("changed: %x", b)
	}
	for i := range b {
		b[i] = 'x'
	}
	w.Keys[0], w.List[0].List[2].List[0] = "y", null
	for i := range w.List[0].List {
		_ = append(w.List[0].List[i].List, no, no, no)
	}
	_ = append(v.List[0].List[2].List, no, no, no)
	if !value.Same(v, want) {
		t.Errorf("kept: %s", show(v))
	}
}

func TestDecodeAnswersTheSame(t *testing.T) {
	s := wide(300, pairs(said("b"), "\x01", said("a"), "\x81\x02", said("c"), "\xA0"))
	first, _ := cbor.Decode([]byte(s))
	for range 20 {
		reads(t, s, first)
	}
}
