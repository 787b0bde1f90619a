package json_test

import (
	"math"
	"reflect"
	"strconv"
	"strings"
	"testing"

	"entrepot/api"
	"entrepot/dyad"
	"entrepot/float"
	"entrepot/json"
	"entrepot/value"
	"entrepot/whole"
)

// Promise 7.2.

func TestWritesEachKind(t *testing.T) {
	writes(t, null, "null")
	writes(t, no, "false")
	writes(t, yes, "true")
	writes(t, plus(), "0")
	writes(t, plus(7), "7")
	writes(t, minus(120), "-120")
	writes(t, half, "0.5")
	writes(t, floating(-1234.0625), "-1234.0625")
	writes(t, text(""), `""`)
	writes(t, text("a b"), `"a b"`)
	writes(t, list(), "[]")
	writes(t, object(""), "{}")
	writes(t, api.Value{Kind: api.KArray, List: []api.Value{}}, "[]")
	writes(t, api.Value{Kind: api.KMap, List: []api.Value{}, Keys: []string{}}, "{}")
	writes(t, list(null), "[null]")
	writes(t, list(null, yes, plus(), text(""), list(), object("")), `[null,true,0,"",[],{}]`)
	writes(t, member("a", list(one, half)), `{"a":[1,0.5]}`)
	writes(t, object("a b c", object("x y", no, list(list())), one, text("z")), `{"a":{"x":false,"y":[[]]},"b":1,"c":"z"}`)
	writes(t, list(member("", null), member("\n", one)), `[{"":null},{"\n":1}]`)
	writes(t, nested(16, null).List[0], within(15, "null"))
	writes(t, nested(15, list()), within(16, ""))
}

func TestNamesInTheirOrder(t *testing.T) {
	keys := []string{"", "\x00", "10", "9", "A", "a", "a\x00", "aa", "b", "\x7F", "é", "€", "\uFFFD", "\U00010000"}
	writes(t, api.Value{Kind: api.KMap, Keys: keys, List: copies(len(keys), one)}, `{"":1,"\u0000":1,"10":1,"9":1,"A":1,"a":1,"a\u0000":1,"aa":1,"b":1,"`+"\x7F"+`":1,"é":1,"€":1,"`+"\uFFFD"+`":1,"`+"\U00010000"+`":1}`)
	writes(t, api.Value{Kind: api.KMap, Keys: names(1000), List: copies(1000, null)}, wide(1000, "null"))
}

func TestWritesTexts(t *testing.T) {
	short := map[rune]string{'"': `\"`, '\\': `\\`, 8: `\b`, 12: `\f`, 10: `\n`, 13: `\r`, 9: `\t`}
	for c := rune(0); c < 0x300; c++ {
		want := string(c)
		if s, ok := short[c]; ok {
			want = s
		} else if c < 0x20 {
			want = `\u00` + strconv.FormatInt(0x100+int64(c), 16)[1:]
		}
		writes(t, text(string(c)), quoted(want))
		writes(t, text("a"+string(c)+"é"+string(c)), quoted("a"+want+"é"+want))
		writes(t, member(string(c), text(string(c))), "{"+quoted(want)+":"+quoted(want)+"}")
	}
	writes(t, text("\x0B\x1A\x1B\x1F\x00\x0E"), `"\u000b\u001a\u001b\u001f\u0000\u000e"`)
	for _, s := range []string{"/", "<a href='x'>&amp;</a>", "\u2028\u2029", "\uFEFF", "\uFFFD\uFFFF", "\u0085\u00A0", "\U0001D11E\U0010FFFF", "\uD7FF\uE000", "\x7F", "u0061", "key: [1,2]"} {
		writes(t, text(s), quoted(s))
	}
}

func TestWritesWholeNumbersAsChapterTwo(t *testing.T) {
	for s, v := range map[string]api.Value{
		"1": one, "-1": minus(1), "9": plus(9), "10": plus(10), "18446744073709551615": plus(full), "18446744073709551616": plus(0, 1), "-18446744073709551616": minus(0, 1), "340282366920938463463374607431768211456": plus(0, 0, 1), "-9223372036854775808": minus(1 << 63),
		"10000000000000000000": plus(10_000_000_000_000_000_000), "9999999999999999999": plus(9_999_999_999_999_999_999), topText: plus(full, full, full, full), "-" + topText: minus(full, full, full, full),
	} {
		writes(t, v, s)
	}
	for n := range 78 {
		zeros := strings.Repeat("0", n)
		for _, s := range []string{"1" + zeros, "1" + strings.Repeat("0", max(n-1, 0)) + "7", "9" + strings.Repeat("9", max(n-1, 0)), "-1" + zeros, "10203" + strings.Repeat("0", max(n-10, 0)) + "40506"} {
			a, ok := whole.Parse(s)
			if !ok {
				t.Fatal(s)
			}
			writes(t, api.Value{Kind: api.KInt, Int: a}, s)
		}
	}
	for _, v := range scattered(3000, (*source).integer) {
		writes(t, v, whole.Print(v.Int))
	}
}

func TestWritesFloatsAsChapterFour(t *testing.T) {
	writes(t, floating(0.1), "0.1000000000000000055511151231257827021181583404541015625")
	writes(t, floating(1.0/(1<<32)/(1<<32)), leastText)
	writes(t, floating(1<<52-0.5), "4503599627370495.5")
	for _, v := range scattered(3000, (*source).plainFloat) {
		s, ok := dyad.Print(v.Bits)
		if !ok {
			t.Fatalf("%x", v.Bits)
		}
		writes(t, v, s)
	}
}

// wrapped is v by itself, and as a part of others.
func wrapped(v api.Value) []api.Value {
	return []api.Value{v, list(v), list(null, v, one), member("a", v), object("a b c", one, list(member("x", v)), null), nested(4, member("y", list(v)))}
}

func TestWhatMayNotBe(t *testing.T) {
	for _, v := range []api.Value{
		{}, {Kind: -1}, {Kind: 9}, {Kind: math.MaxInt}, {Kind: api.KBool, Bits: 2}, minus(), {Kind: api.KFloat}, floating(1), floating(math.Copysign(0, -1)), {Kind: api.KFloat, Bits: float.NaN + 1}, text("\xFF"), text("\xED\xA0\x80"),
		member("\xFF", null), object("b a", null, null), object("a a", null, null), object("a", null, null), object("a b", null), {Kind: api.KNull, Text: "x"}, {Kind: api.KNull, List: copies(1, null)}, {Kind: api.KArray, Keys: names(1)}, {Kind: api.KText, Bits: 1}, {Kind: api.KInt, Bits: 1}, {Kind: api.KBytes, Bits: 1},
	} {
		for _, w := range wrapped(v) {
			refuses(t, w, api.ErrArg)
		}
	}
	crowd, long := list(copies(1001, null)...), text(strings.Repeat("a", 4097))
	for _, v := range []api.Value{
		crowd, {Kind: api.KMap, Keys: names(1001), List: copies(1001, null)}, long, {Kind: api.KBytes, Text: long.Text}, member(long.Text, null), list(copies(11, list(copies(950, null)...))...),
	} {
		for _, w := range wrapped(v) {
			refuses(t, w, api.ErrLimit)
		}
	}
	for n := 16; n < 20; n++ {
		for _, v := range []api.Value{nested(n, null), member("a", nested(n, half)), list(nested(n, crowd)), nested(n, long), nested(n, api.Value{}), nested(n, api.Value{Kind: api.KBytes})} {
			refuses(t, v, api.ErrDepth)
		}
	}
	refuses(t, nested(60_000, null), api.ErrDepth)
}

func TestWhatJSONCantSay(t *testing.T) {
	for _, v := range []api.Value{
		{Kind: api.KBytes}, {Kind: api.KBytes, Text: "a"}, {Kind: api.KFloat, Bits: infinity}, {Kind: api.KFloat, Bits: 1<<63 | infinity}, {Kind: api.KFloat, Bits: float.NaN}, {Kind: api.KFloat, Bits: 1}, floating(math.MaxFloat64), floating(math.Ldexp(1, 256)), floating(math.Ldexp(1, -65)), floating(-math.Ldexp(3, -66)), floating(1e300), floating(5e-324),
	} {
		for _, w := range wrapped(v) {
			refuses(t, w, api.ErrUnrep)
		}
	}
}

func TestFirstErrorOfEncode(t *testing.T) {
	raw, wrong, long := api.Value{Kind: api.KBytes}, api.Value{}, text(strings.Repeat("a", 4097))
	wide := list(copies(30, text(strings.Repeat("a", 4096)))...) // that would be too long
	deep := nested(16, null)
	for _, c := range []struct {
		want int
		l    []api.Value
	}{
		{api.ErrDepth, []api.Value{raw, wrong, long, wide, deep}}, {api.ErrDepth, []api.Value{deep, raw}}, {api.ErrDepth, []api.Value{wide, deep}},
		{api.ErrLimit, []api.Value{raw, wrong, long}}, {api.ErrLimit, []api.Value{long, raw}},
		{api.ErrArg, []api.Value{raw, wrong}}, {api.ErrArg, []api.Value{wrong, raw}}, {api.ErrArg, []api.Value{wide, wrong}}, {api.ErrArg, []api.Value{wrong, wide}},
		{api.ErrUnrep, []api.Value{wide, raw}}, {api.ErrUnrep, []api.Value{raw, wide}}, {api.ErrUnrep, []api.Value{wide, wide, floating(1e300)}},
		{api.ErrLimit, []api.Value{wide}}, {api.ErrLimit, []api.Value{null, wide, null}},
	} {
		refuses(t, list(c.l...), c.want)
		refuses(t, api.Value{Kind: api.KMap, Keys: names(len(c.l)), List: c.l}, c.want)
	}
}

// Texts of 65,536 bytes and of one more, whatever stands last in them.
func TestLongestText(t *testing.T) {
	ahead := copies(15, text(strings.Repeat("a", 4096))) // 61,485 bytes, with quotes and commas
	const left = 65_536 - 61_485 - len("[]")
	letters := func(n int) string { return strings.Repeat("b", n) }
	for _, ending := range []func(n int) []api.Value{ // of n bytes
		func(n int) []api.Value { return []api.Value{text(letters(n - 2))} },
		func(n int) []api.Value { return []api.Value{text(letters(n%2) + strings.Repeat("é", n/2-1))} },
		func(n int) []api.Value { return []api.Value{text(letters(n%2) + strings.Repeat("\n", n/2-1))} },
		func(n int) []api.Value { return []api.Value{text(letters((n-2)%6) + strings.Repeat("\x00", (n-2)/6))} },
		func(n int) []api.Value { return []api.Value{text(letters(n - 6)), plus(100)} },
		func(n int) []api.Value { return []api.Value{text(letters(n - 6)), half} },
		func(n int) []api.Value { return []api.Value{text(letters(n - 7)), yes} },
		func(n int) []api.Value { return []api.Value{text(letters(n - 5)), list()} },
		func(n int) []api.Value { return []api.Value{text(letters(n - 5)), object("")} },
		func(n int) []api.Value { return []api.Value{member(letters(n-6), plus(7))} },
		func(n int) []api.Value { return []api.Value{list(list(text(letters(n - 6))))} },
	} {
		v := list(append(ahead, ending(left)...)...)
		if b, err := json.Encode(v); err != api.OK || len(b) != 65_536 {
			t.Errorf("%d bytes, %d: %s", len(b), err, show(list(ending(left)...)))
		}
		comesBack(t, v)
		refuses(t, list(append(ahead, ending(left+1)...)...), api.ErrLimit)
		refuses(t, list(append(ahead, ending(left+2)...)...), api.ErrLimit)
	}
}

// What holds the same long texts many times is told without writing all of it.
func TestEncodeEndsSoon(t *testing.T) {
	long := strings.Repeat("\x00", 4096)
	refuses(t, list(copies(500, list(copies(9, member(long, text(long)))...))...), api.ErrLimit)
	v := null
	for range 60 {
		v = list(v, v)
	}
	refuses(t, v, api.ErrDepth)
}

func TestEncodeAnswersNewMemory(t *testing.T) {
	v := object("a b", list(one, text("xyz")), text("q\n"))
	kept := object("a b", list(one, text("xyz")), text("q\n"))
	b, _ := json.Encode(v)
	c, _ := json.Encode(v)
	for i := range b {
		b[i] = 'x'
	}
	_ = append(b[:0], "yyyyyyyyyyyyyyyyyyyyyyyyyy"...)
	if string(c) != `{"a":[1,"xyz"],"b":"q\n"}` || !reflect.DeepEqual(v, kept) {
		t.Errorf("%s, %s", c, show(v))
	}
}

func TestAllThatIsInJSONIsWritten(t *testing.T) {
	for _, v := range scattered(3000, (*source).ofAnyDepth) {
		_, err := json.Encode(v)
		if is := value.In(v, api.JSON); is != (err == api.OK) || !is && err != api.ErrUnrep {
			t.Errorf("Encode(%s): %d", show(v), err)
		}
	}
}
