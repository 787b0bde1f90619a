package json_test

import (
	"strconv"
	"strings"
	"testing"

	"entrepot/api"
	"entrepot/json"
	"entrepot/value"
)

// Promise 7.1: what is read.

func TestEachKind(t *testing.T) {
	reads(t, "null", null)
	reads(t, "false", no)
	reads(t, "true", yes)
	reads(t, "7", plus(7))
	reads(t, "2.5", floating(2.5))
	reads(t, `"a"`, text("a"))
	reads(t, `""`, text(""))
	reads(t, "[]", list())
	reads(t, "{}", object(""))
	reads(t, `[null,true,0,"",[],{}]`, list(null, yes, plus(), text(""), list(), object("")))
	reads(t, `[1,2.5e0,"\u00e9"]`, list(one, floating(2.5), text("é")))
	reads(t, `{"a":null}`, member("a", null))
	reads(t, `{"":{"":[]}}`, member("", member("", list())))
	reads(t, `{"a":[1,{"b":[[]]}],"c":{"d":{},"e":[{}]}}`, object("a c", list(one, member("b", list(list()))), object("d e", object(""), list(object("")))))
	reads(t, `[[[1],2],[3,[4]],[],[[]]]`, list(list(list(one), plus(2)), list(plus(3), list(plus(4))), list(), list(list())))
	reads(t, `[{"a":1},{"a":1},{"a":{"a":1}}]`, list(member("a", one), member("a", one), member("a", member("a", one)))) // a name in each of them, not twice in one
}

func TestNumbers(t *testing.T) {
	for s, want := range map[string]api.Value{
		"0": plus(), "-0": plus(), "0.0": plus(), "-0.0e-5": plus(), "0e999999999999": plus(), "1": one, "-1": minus(1), "10": plus(10), "100": plus(100), "-120": minus(120),
		"1.0": one, "1e0": one, "1E0": one, "1e+0": one, "1e-0": one, "10e-1": one, "100e-2": one, "0.1e1": one, "0.01E+02": one, "1.000e000": one, "-1.0": minus(1), "-10e-1": minus(1),
		"1e2": plus(100), "1.5e1": plus(15), "100e-1": plus(10), "12e1": plus(120), "1234567890": plus(1234567890),
		"9007199254740993": plus(1<<53 + 1), "9223372036854775808": plus(1 << 63), "18446744073709551615": plus(full), "18446744073709551616": plus(0, 1), "1e20": plus(0x6BC75E2D63100000, 5),
		topText: plus(full, full, full, full), "-" + topText: minus(full, full, full, full), topText + ".0": plus(full, full, full, full),
		"0.5": half, "5e-1": half, "0.50": half, "50e-2": half, "0.05e+1": half, "-0.5": floating(-0.5), "-5E-1": floating(-0.5), "2.5e0": floating(2.5), "3.125": floating(3.125), "-1234.0625": floating(-1234.0625),
		"0.1000000000000000055511151231257827021181583404541015625": floating(0.1), leastText: floating(1.0 / (1 << 32) / (1 << 32)),
	} {
		reads(t, s, want)
		reads(t, "["+s+"]", list(want))
		reads(t, "["+s+","+s+"]", list(want, want))
		reads(t, "[ "+s+"\t,\n"+s+"\r]", list(want, want))
		reads(t, `{"a":`+s+`,"b":`+s+"}", object("a b", want, want))
	}
}

// Between all parts there may be any of them, and none is one of the value's parts.
func TestBlanks(t *testing.T) {
	parts := []string{"", "{", `"a"`, ":", "[", "1", ",", "-2.5e1", ",", `" x "`, ",", "null", "]", ",", `" b"`, ":", "{", "}", ",", `"c"`, ":", "[", "]", ",", `"d"`, ":", "true", "}", ""}
	want := api.Value{Kind: api.KMap, Keys: []string{" b", "a", "c", "d"}, List: []api.Value{object(""), list(one, minus(25), text(" x "), null), list(), yes}}
	for _, blank := range []string{"", " ", "\t", "\n", "\r", "\r\n", " \t\n\r \t\n\r", strings.Repeat(" ", 1000)} {
		reads(t, strings.Join(parts, blank), want)
		for i := 1; i < len(parts); i++ {
			reads(t, strings.Join(parts[:i], "")+blank+strings.Join(parts[i:], ""), want)
		}
	}
	for _, s := range []string{"1", "-1.5", "null", "true", `"a"`, "[]", "{}"} {
		for _, blank := range []string{" ", "\t", "\n", "\r"} {
			ends(t, blank+s, api.OK)
			ends(t, s+blank, api.OK)
			ends(t, blank+blank+s+blank+blank, api.OK)
		}
	}
}

func TestOtherBlanks(t *testing.T) {
	for _, blank := range []string{"\x00", "\x01", "\x08", "\v", "\f", "\x0E", "\x1C", "\x1F", "\x7F", "\x80", "\x85", "\xA0", "\u0085", "\u00A0", "\u1680", "\u2003", "\u2028", "\u2029", "\u3000", "\uFEFF", "\xEF\xBB\xBF", "/**/", "//\n", "#\n", `\n`, `\u0020`, "_"} {
		for _, s := range []string{blank, blank + "1", "1" + blank, "[" + blank + "]", "[1" + blank + "]", "[1" + blank + ",2]", "[1," + blank + "2]", `{` + blank + `}`, `{` + blank + `"a":1}`, `{"a"` + blank + ":1}", `{"a":` + blank + "1}", `{"a":1` + blank + `}`} {
			fails(t, s, api.ErrSyntax)
		}
	}
}

func TestEscapes(t *testing.T) {
	for s, want := range map[string]string{
		`\"`: "\"", `\\`: "\\", `\/`: "/", `\b`: "\x08", `\f`: "\x0C", `\n`: "\x0A", `\r`: "\x0D", `\t`: "\x09",
		`\u0000`: "\x00", `\u0001`: "\x01", `\u001f`: "\x1F", `\u001F`: "\x1F", `\u0020`: " ", `\u0022`: "\"", `\u002F`: "/", `\u005c`: "\\", `\u005C`: "\\", `\u0061`: "a", `\u007f`: "\x7F",
		`\u0080`: "\u0080", `\u00e9`: "é", `\u00E9`: "é", `\u07ff`: "\u07FF", `\u0800`: "\u0800", `\u20ac`: "€", `\u20AC`: "€", `\uabcd`: "\uABCD", `\uABCD`: "\uABCD", `\uAbCd`: "\uABCD", `\uEF01`: "\uEF01",
		`\ud7ff`: "\uD7FF", `\ue000`: "\uE000", `\ufffd`: "\uFFFD", `\ufffe`: "\uFFFE", `\uFFFF`: "\uFFFF", `\ufeff`: "\uFEFF",
		`\ud800\udc00`: "\U00010000", `\uD800\uDC00`: "\U00010000", `\ud800\udfff`: "\U000103FF", `\ud801\udc00`: "\U00010400", `\ud834\udd1e`: "𝄞", `\uD834\udD1E`: "𝄞", `\udbff\udc00`: "\U0010FC00", `\udbff\udfff`: "\U0010FFFF",
		`\\u0061`: `\u0061`, `\\\u0061`: `\a`, `\u005cu0061`: `\u0061`, `\u005cn`: `\n`, `\\n`: `\n`, `\\\n`: "\\\n", `\u00410`: "A0", `\u0041\u0042`: "AB", `\ud834\udd1e\ud834\udd1e`: "𝄞𝄞", `\"\\\/\b\f\n\r\t`: "\"\\/\b\f\n\r\t", `\n\n`: "\n\n",
	} {
		for _, ahead := range []string{"", "x", "é", `\t`} {
			for _, behind := range []string{"", "x", "0", "𝄞", `\\`} {
				meant := strings.ReplaceAll(ahead, `\t`, "\t") + want + strings.ReplaceAll(behind, `\\`, `\`)
				reads(t, quoted(ahead+s+behind), text(meant))
				reads(t, "{"+quoted(ahead+s+behind)+":0}", member(meant, plus()))
			}
		}
	}
}

// Each length of code points, as themselves and by their digits, at its ends and within.
func TestCodePoints(t *testing.T) {
	points := []rune{0x20, 0x21, 'a', 0x7E, 0x7F, 0x80, 0x85, 0xE9, 0x7FF, 0x800, 0x2028, 0x20AC, 0xD7FF, 0xE000, 0xFDD0, 0xFEFF, 0xFFFD, 0xFFFF, 0x10000, 0x1D11E, 0x1FFFF, 0xFFFFF, 0x100000, 0x10FFFF}
	for _, c := range points {
		s := string(c)
		reads(t, quoted(escaped(c)), text(s))
		reads(t, quoted(strings.ToUpper(escaped(c)[:1])+escaped(c)[1:]), text(s))
		reads(t, "{"+quoted(escaped(c))+":1}", member(s, one))
		for _, d := range points {
			if c != '"' && d != '"' {
				reads(t, quoted(s+string(d)), text(s+string(d)))
			}
			reads(t, quoted(escaped(c)+escaped(d)), text(s+string(d)))
		}
		reads(t, quoted(s), text(s))
		reads(t, "{"+quoted(s)+":1}", member(s, one))
	}
}

// escaped is a code point by its digits.
func escaped(c rune) string {
	if c < 0x10000 {
		return escapedUnit(c)
	}
	c -= 0x10000
	return escapedUnit(0xD800+c/0x400) + escapedUnit(0xDC00+c%0x400)
}

func escapedUnit(c rune) string {
	return `\u` + strconv.FormatInt(0x10000+int64(c), 16)[1:]
}

// All that four digits can say, and all that two such can.
func TestEachEscapedUnit(t *testing.T) {
	for c := rune(0); c < 0x10000; c++ {
		if c >= 0xD800 && c < 0xE000 {
			fails(t, quoted(escapedUnit(c)), api.ErrSyntax)
		} else {
			reads(t, quoted(escapedUnit(c)), text(string(c)))
		}
	}
	for c := rune(0x10000); c <= 0x10FFFF; c += 97 {
		reads(t, quoted(escaped(c)), text(string(c)))
	}
}

func TestNames(t *testing.T) {
	sorted := object("a b c d", one, plus(2), plus(3), plus(4))
	reads(t, `{"a":1,"b":2,"c":3,"d":4}`, sorted)
	reads(t, `{"d":4,"c":3,"b":2,"a":1}`, sorted)
	reads(t, `{"c":3,"a":1,"d":4,"b":2}`, sorted)
	reads(t, `{"\u0062":2,"\u0061":1,"d":4,"\u0063":3}`, sorted)
	bytewise := []string{"", "\x00", "\x00\x00", "\x01", " ", "0", "10", "9", "A", "B", "Z", "Za", "a", "a\x00", "aa", "ab", "b", "\x7F", "é", "é€", "€", "\uE000", "\uFFFD", "\U00010000", "\U0010FFFF"}
	var members []string
	want := api.Value{Kind: api.KMap, Keys: bytewise}
	for i, name := range bytewise {
		units := ""
		for _, c := range name {
			units += escaped(c)
		}
		members = append([]string{quoted(units) + ":" + strconv.Itoa(i)}, members...)
		want.List = append(want.List, plus(uint64(i)))
	}
	reads(t, "{"+strings.Join(members, ",")+"}", want)
}

func TestNamesTwice(t *testing.T) {
	for _, s := range []string{
		`{"a":1,"a":2}`, `{"a":1,"a":1}`, `{"":1,"":1}`, `{"a":1,"b":2,"a":3}`, `{"b":1,"a":2,"a":3}`, `{"a":null,"a":null}`, `{"a":{},"a":[]}`,
		`{"a":1,"\u0061":2}`, `{"\u0061":1,"a":2}`, `{"\u0061":1,"\u0061":2}`, `{"é":1,"\u00e9":2}`, `{"\u00E9":1,"\u00e9":2}`, `{"𝄞":1,"\ud834\udd1e":2}`, `{"/":1,"\/":2}`, `{"\n":1,"\u000a":2}`, `{"\"":1,"\u0022":2}`, `{"\\":1,"\u005c":2}`, `{"\u0000":1,"\u0000":2}`, `{"a b":1,"a\u0020b":2}`,
	} {
		for _, p := range places(s) {
			fails(t, p, api.ErrSyntax)
		}
	}
	for _, s := range []string{`{"a":1,"A":2}`, `{"a":1,"a ":2}`, `{"a":1,"aa":2}`, `{"":1,"\u0000":2}`, `{"é":1,"e\u0301":2}`, `{"a":1,"\\u0061":2}`, `{"a":{"a":{"a":1}}}`, `[{"a":1},{"a":2}]`, `{"a":"a","b":"a"}`} {
		for _, p := range places(s) {
			ends(t, p, api.OK)
		}
	}
	many := strings.TrimSuffix(wide(999, "0"), "}")
	ends(t, many+`,"a":0}`, api.OK)
	for _, name := range []string{"10000", "10500", "10998"} {
		fails(t, many+`,"`+name+`":0}`, api.ErrSyntax)
	}
}

// What is handed in is neither changed nor kept, and no list of an answer holds another's memory.
func TestDecodeAnswersNewMemory(t *testing.T) {
	s := `{"name":["text","more",[1],[2]],"other\u0021":"long \n text"}`
	want := object("name other!", list(text("text"), text("more"), list(one), list(plus(2))), text("long \n text"))
	b := []byte(s)
	v, _ := json.Decode(b)
	w, _ := json.Decode(b)
	if string(b) != s {
		t.Errorf("changed: %s", b)
	}
	for i := range b {
		b[i] = 'x'
	}
	w.Keys[0], w.List[0].List[2].List[0] = "y", null
	for i := range w.List[0].List {
		_ = append(w.List[0].List[i].List, no, no, no)
	}
	_ = append(v.List[0].List[2].List, no, no, no)
	if !value.Same(v, want) {
		t.Errorf("kept: %s", show(v))
	}
}

func TestDecodeAnswersTheSame(t *testing.T) {
	s := wide(300, `{"b":1,"a":[2],"c":{}}`)
	first, _ := json.Decode([]byte(s))
	for range 20 {
		reads(t, s, first)
	}
}
