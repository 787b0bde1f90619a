package json_test

import (
	std "encoding/json"
	"io"
	"strings"
	"testing"
	"unicode/utf8"

	"entrepot/api"
	"entrepot/json"
)

// Promise 7.1: what is no JSON text.

func TestNothing(t *testing.T) {
	if v, err := json.Decode(nil); err != api.ErrSyntax || v.Kind != 0 {
		t.Errorf("Decode(nil) = %s, %d", show(v), err)
	}
	for _, s := range []string{"", " ", "\t\n\r ", strings.Repeat(" ", 65536)} {
		fails(t, s, api.ErrSyntax)
	}
}

func TestCutOff(t *testing.T) {
	for _, s := range []string{
		`{"a":[1,-2.5e+10,{"b":null,"é\u00e9\ud834\udd1e\n":[true,false,"x"]}],"c":{}}`,
		`[ { } , [ ] , "" , { "a" : 0.5 } ]`, `"\"\\\/\b\f\n\r\t\u0041é€𝄞"`, "true", "false", "null", within(16, ""), wide(3, "[]"),
	} {
		ends(t, s, api.OK)
		for i := range len(s) {
			fails(t, s[:i], api.ErrSyntax)
			fails(t, s[:i]+" ", api.ErrSyntax)
		}
	}
	for _, s := range []string{"-", "1.", "-1.", "1e", "1E+", "1.5e-", "-0."} {
		fails(t, s, api.ErrSyntax)
	}
}

func TestMoreBehindTheEnd(t *testing.T) {
	for _, s := range []string{"1", "-2.5", "null", "true", `"a"`, "[]", "[1]", "{}", `{"a":1}`} {
		for _, more := range []string{" 1", " null", " -1", ",", ":", "]", "}", "[]", "{}", `""`, `"`, "x", "\x00", " \x00", "\\", "/", "//", ";", "\xFF", "é", "\uFEFF", ",1", " ,", "\n]"} {
			fails(t, s+more, api.ErrSyntax)
			fails(t, s+" "+more, api.ErrSyntax)
		}
		for _, ahead := range []string{",", ":", "]", "}", "x", "\x00", "\xEF\xBB\xBF", "\xFF\xFE", "+", "'", "1 ", "null ", ")]}'\n"} {
			fails(t, ahead+s, api.ErrSyntax)
		}
	}
}

func TestCommasAndColons(t *testing.T) {
	for _, s := range []string{
		"[,]", "[1,]", "[,1]", "[1,,2]", "[1 2]", "[1,2,]", "[[],]", "[[][]]", "[1:2]", "[1;2]", `["a":1]`, `["a" "b"]`, "[1,]]", "[]]", "[[]", "[1", "[", "]", "[}", "{]", "[1}", "(1)",
		"{,}", `{"a":1,}`, `{,"a":1}`, `{"a":1,,"b":2}`, `{"a":1 "b":2}`, `{"a":1:"b":2}`, `{"a",1}`, `{"a" 1}`, `{"a"}`, `{"a":}`, `{"a"::1}`, `{:1}`, `{"a":1:}`, `{"a":,}`, `{"a":1,"b"}`, `{"a":1,"b":}`, `{"a":1]`, `{"a":1`, `{"a":`, `{"a"`, `{"a`, "{", "}", "{}}", `{"a":1}}`,
		"{1:2}", "{a:1}", "{'a':1}", "{null:1}", "{[]:1}", "{{}:1}", "{true:1}", `{"a":1,b:2}`, `{"a":1,2:3}`, `{"a":b}`, "{{}}", "{[]}", "{1}", `{""}`, ",", ":", ",1", "1,", ":1", `"a":1`, "1 2", "1:2", "[][]", `"a""b"`, "nulltrue",
	} {
		for _, p := range places(s) {
			fails(t, p, api.ErrSyntax)
		}
	}
	for _, s := range []string{"1,2", "[],[]", `"a","b"`, "null,1", `1,"b":2`} {
		fails(t, s, api.ErrSyntax)
	}
}

func TestWords(t *testing.T) {
	for _, s := range []string{
		"n", "nu", "nul", "nulll", "Null", "NULL", "nUll", "nil", "none", "None", "undefined", "t", "tru", "truee", "True", "TRUE", "tRue", "f", "fals", "falsee", "False", "FALSE", "yes", "no", "on",
		"nan", "NaN", "NAN", "inf", "Inf", "infinity", "Infinity", "-Infinity", "-inf", "+Infinity", "-NaN", "a", "x1", "nullnull", "truefalse", "null1", "1null", "true1", "null\x00", "n ull", "nu\nll", "$", "@", "`a`", "'a'", "''", "/a/",
	} {
		for _, p := range places(s) {
			fails(t, p, api.ErrSyntax)
		}
	}
}

func TestNoNumbers(t *testing.T) {
	for _, s := range []string{
		"01", "00", "-01", "-00", "001", "00.5", "-00.5", "0123", "08", "1.", "-1.", "0.", "-0.", ".5", "-.5", ".", "-", "--1", "+1", "+", "-+1", "- 1", "1 .5", "1. 5", "1e 5", "1 e5", "-e5",
		"1e", "1E", "1e+", "1e-", "1e+-1", "1e--1", "1e1.5", "1e1e1", "1e1.", "e1", "E", ".e1", "1.e1", "0.e1", "-.e1", "1..5", "1.5.5", "1.5.", "1-", "1+", "1-1", "1+1", "1e5-", "0x10", "0X1", "0b1", "0o7", "1_000", "1f", "1L", "1n", "1d", "0a", "1a", "1.5a", "1e5a",
		"١", "１", "1²", "−1", "1\x00", "\x001", "1é", "1.٥", "0e", "-0e", "0e+", "0.0e", "1e++1", "-1-", "1e٥", "1/2", "1%", "$1",
	} {
		for _, p := range places(s) {
			fails(t, p, api.ErrSyntax)
		}
	}
}

// However long they are.
func TestNoLongNumbers(t *testing.T) {
	for _, n := range []int{390, 398, 399, 400, 401, 402, 1000, 60_000} {
		ones := strings.Repeat("1", n)
		for _, s := range []string{"0" + ones, "-0" + ones, ones + ".", ones + "e", ones + "e+", ones + ".e1", ones + ".5e", "." + ones, "-." + ones, "+" + ones, "-" + ones + "-", ones + ".." + "1", "1." + ones + ".1", "1e" + ones + ".1", "1e" + ones + "e1", "1e-" + ones + "-", ones + "a", "00." + ones, ones + "x1", strings.Repeat("0", n), strings.Repeat("-", n) + "1"} {
			fails(t, s, api.ErrSyntax)
			fails(t, "["+s+"]", api.ErrSyntax)
			fails(t, "[0.1,"+s+"]", api.ErrSyntax)
		}
	}
}

func TestBytesInTexts(t *testing.T) {
	for c := range 256 {
		s := string([]byte{byte(c)})
		wrong := c < 0x20 || c >= 0x80 || s == `"` || s == `\`
		for _, p := range []string{s, "a" + s, s + "a", "é" + s + "é", `\n` + s} {
			for _, doc := range []string{quoted(p), "{" + quoted(p) + ":1}", `["a",` + quoted(p) + "]"} {
				if wrong {
					fails(t, doc, api.ErrSyntax)
				} else {
					ends(t, doc, api.OK)
				}
			}
		}
	}
}

func TestNoUTF8(t *testing.T) {
	for _, s := range []string{
		"\x80", "\xBF", "\xC0", "\xC1", "\xF5", "\xFE", "\xFF", "\xC3", "\xE2\x82", "\xF0\x9D\x84", "\xC0\x80", "\xC1\xBF", "\xE0\x80\x80", "\xE0\x9F\xBF", "\xF0\x80\x80\x80", "\xF0\x8F\xBF\xBF",
		"\xED\xA0\x80", "\xED\xBF\xBF", "\xED\xA0\xB4\xED\xB4\x9E", "\xF4\x90\x80\x80", "\xF7\xBF\xBF\xBF", "\xF8\x88\x80\x80\x80", "\xC3\xC3\xA9", "\xC3a", "\xE2\x82a", "\xF0\x9D\x84a", "\xA9\xC3", "\xC3\"", "\xC3\\n",
	} {
		for _, p := range []string{s, "a" + s, s + "a", "é" + s + "é", s + `\n`} {
			fails(t, quoted(p), api.ErrSyntax)
			fails(t, "{"+quoted(p)+":1}", api.ErrSyntax)
			fails(t, `["a",`+quoted(p)+"]", api.ErrSyntax)
		}
		fails(t, s, api.ErrSyntax)
		fails(t, "[1"+s+"]", api.ErrSyntax)
	}
}

func TestNoEscapes(t *testing.T) {
	for c := range 256 {
		s := string([]byte{byte(c)})
		if c == 'u' || strings.Contains(`"\/bfnrt`, s) {
			continue
		}
		fails(t, quoted(`\`+s), api.ErrSyntax)
		fails(t, quoted(`\`+s+"0061"), api.ErrSyntax)
		fails(t, quoted(`a\`+s+"a"), api.ErrSyntax)
		fails(t, "{"+quoted(`\`+s)+":1}", api.ErrSyntax)
	}
	for _, s := range []string{`\`, `\\\`, `\u`, `\u0`, `\u00`, `\u006`, `\u{61}`, `\U0061`, `\u 061`, `\u+061`, `\u-061`, `\u0x61`, `\u00_1`, `\x61`, `\061`, `\u006 1`, `\uu0061`, `\u٠٠٦١`, `\u00é`, `\ué1`, `\N`, `\T`, `\B`} {
		fails(t, quoted(s), api.ErrSyntax)
		fails(t, quoted("a"+s), api.ErrSyntax)
		fails(t, `"`+s, api.ErrSyntax)
	}
	for at := range 4 {
		for c := range 256 {
			digits := []byte("0061")
			digits[at] = byte(c)
			if !strings.Contains("0123456789abcdefABCDEF", string(digits[at:at+1])) {
				fails(t, quoted(`\u`+string(digits)), api.ErrSyntax)
				fails(t, quoted(`\ud834\ud`+string(digits[1:])), api.ErrSyntax)
			}
		}
	}
}

func TestSurrogatesAlone(t *testing.T) {
	high, low := []string{`\ud800`, `\uD834`, `\udbff`}, []string{`\udc00`, `\uDD1E`, `\udfff`}
	var wrong []string
	for _, h := range high {
		wrong = append(wrong, h+`\u`, h+`\ud`, h+`\udd1`, h+`\`, h+`\n`, h+`\\`, h+`\/`, h+`u`+low[1][2:], h+" "+low[0], h+"𝄞", h+"\xED\xB4\x9E", h+`\\udd1e`, h+`\u0061`, h+`\ue000`, h+`\ud7ff`, h+`\uffff`, h+`\u0000`)
		for _, other := range high {
			wrong = append(wrong, h, h+other, h+other+other, h+"a", "a"+h, h+"é")
			for _, l := range low {
				wrong = append(wrong, l, l+l, l+h, l+"a", "a"+l, h+l+l, h+h+l, h+l+other, l+h+l, h+"a"+l, h+`\u0061`+l, h+`\n`+l, h+`\U`+l[2:])
				reads(t, quoted(h + l + other + l)[:0]+quoted(h+l+other+l), text(meaning(t, h+l)+meaning(t, other+l)))
			}
		}
	}
	for _, s := range wrong {
		fails(t, quoted(s), api.ErrSyntax)
		fails(t, "{"+quoted(s)+":1}", api.ErrSyntax)
	}
}

// meaning is an escaped text's by the library.
func meaning(t *testing.T, s string) string {
	t.Helper()
	var out string
	if err := std.Unmarshal([]byte(quoted(s)), &out); err != nil {
		t.Fatal(s, err)
	}
	return out
}

// isJSON is whether the library takes s for JSON, and it is free of what the library is lax about:
// bytes that are no UTF-8, surrogates alone, names that stand twice.
func isJSON(s string) bool {
	if !utf8.ValidString(s) || !std.Valid([]byte(s)) || strings.ContainsRune(s, utf8.RuneError) {
		return false
	}
	d := std.NewDecoder(strings.NewReader(s))
	d.UseNumber()
	seen := []map[string]bool{nil} // of each array or object within which the decoder is; of arrays nil
	isName := []bool{false}
	for {
		token, err := d.Token()
		if err == io.EOF {
			return true
		}
		if err != nil {
			return false
		}
		last := len(seen) - 1
		str, isText := token.(string)
		if isText && strings.ContainsRune(str, utf8.RuneError) {
			return false
		}
		if isName[last] {
			if token != std.Delim('}') {
				if seen[last][str] {
					return false
				}
				seen[last][str], isName[last] = true, false
				continue
			}
		}
		switch token {
		case std.Delim('{'):
			seen, isName = append(seen, map[string]bool{}), append(isName, true)
			continue
		case std.Delim('['):
			seen, isName = append(seen, nil), append(isName, false)
			continue
		case std.Delim('}'), std.Delim(']'):
			seen, isName = seen[:last], isName[:last]
			last--
		}
		isName[last] = seen[last] != nil
	}
}

// Each text that is some other one with a piece taken out, put in, doubled or changed.
func TestAgainstTheLibrary(t *testing.T) {
	texts := []string{
		`{"a":[1,-2.5e+10,{"b":null,"\u00e9\ud834\udd1e\n":[true,false,"x"]}],"c":{}}`,
		`[ {"a" : 0.5 ,"ab":-0} , [ ] , "\u0041\\" ,{ }, 10E-1]`,
		`{"a":{"a":1,"b":2},"b":{"a":"\/","ab":"a"}}`,
		`[-0.125,100,5e-1,1E+2,0e0]`, `["\ud800\udc00","\udbff\udfff"]`,
	}
	pieces := []string{"", " ", "\n", "\v", ",", ":", "[", "]", "{", "}", `"`, `\`, "0", "1", "-", "+", ".", "e", "E", "a", "b", "n", "u", "d", "null", "true", "[]", "{}", `""`, `"a":1,`, "1,", `\u`, `\ud834`, `\udd1e`, "\x00", "\x1F", "\x7F", "é", "\xC3", "\xFF"}
	good, bad := 0, 0
	hold := func(s string) {
		_, err := json.Decode([]byte(s))
		if is := isJSON(s); is == (err == api.ErrSyntax) {
			t.Errorf("Decode(%s): %d", brief(s), err)
		} else if is {
			good++
		} else {
			bad++
		}
	}
	for _, s := range texts {
		hold(s)
		for i := range len(s) + 1 {
			for _, piece := range pieces {
				hold(s[:i] + piece + s[i:])
				for n := 1; n <= 6 && i+n <= len(s); n++ {
					hold(s[:i] + piece + s[i+n:])
				}
			}
			for j := i + 1; j <= len(s); j++ {
				hold(s[:i] + s[j:])
				hold(s[:j] + s[i:])
			}
		}
	}
	if good < 3000 || bad < 3000 {
		t.Errorf("%d good, %d bad", good, bad)
	}
}
