package json_test

import (
	"math"
	"reflect"
	"strconv"
	"strings"
	"testing"

	"entrepot/api"
	"entrepot/json"
	"entrepot/value"
)

const (
	full     = 1<<64 - 1
	infinity = 0x7FF0000000000000

	topText    = "115792089237316195423570985008687907853269984665640564039457584007913129639935" // 2^256 - 1
	beyondText = "115792089237316195423570985008687907853269984665640564039457584007913129639936" // 2^256

	leastText = "0.0000000000000000000542101086242752217003726400434970855712890625" // 2^-64
)

var (
	null = api.Value{Kind: api.KNull}
	no   = api.Value{Kind: api.KBool}
	yes  = api.Value{Kind: api.KBool, Bits: 1}
	one  = plus(1)
	half = floating(0.5)
)

// plus and minus are the whole numbers of these limbs, the least one first.
func plus(limbs ...uint64) api.Value {
	v := api.Value{Kind: api.KInt}
	copy(v.Int.N[:], limbs)
	return v
}

func minus(limbs ...uint64) api.Value {
	v := plus(limbs...)
	v.Int.Neg = true
	return v
}

func floating(f float64) api.Value {
	return api.Value{Kind: api.KFloat, Bits: math.Float64bits(f)}
}

func text(s string) api.Value       { return api.Value{Kind: api.KText, Text: s} }
func list(l ...api.Value) api.Value { return api.Value{Kind: api.KArray, List: l} }
func many(n int, s string) string   { return strings.TrimSuffix(strings.Repeat(s+",", n), ",") }
func quoted(s string) string        { return `"` + s + `"` }
func within(n int, s string) string { return strings.Repeat("[", n) + s + strings.Repeat("]", n) }
func withinMaps(n int, s string) string {
	return strings.Repeat(`{"m":`, n) + s + strings.Repeat("}", n)
}

// object is a map of names, divided by blanks, to their values.
func object(names string, l ...api.Value) api.Value {
	return api.Value{Kind: api.KMap, Keys: strings.Fields(names), List: l}
}

// member is a map of one name.
func member(name string, v api.Value) api.Value {
	return api.Value{Kind: api.KMap, Keys: []string{name}, List: []api.Value{v}}
}

// copies is n times v.
func copies(n int, v api.Value) []api.Value {
	l := make([]api.Value, n)
	for i := range l {
		l[i] = v
	}
	return l
}

// nested is v within n arrays.
func nested(n int, v api.Value) api.Value {
	for range n {
		v = list(v)
	}
	return v
}

// names is n of them that rise.
func names(n int) []string {
	out := make([]string, n)
	for i := range out {
		out[i] = strconv.Itoa(10_000 + i)
	}
	return out
}

// wide is an object's text of n members.
func wide(n int, s string) string {
	var out []string
	for _, name := range names(n) {
		out = append(out, quoted(name)+":"+s)
	}
	return "{" + strings.Join(out, ",") + "}"
}

// places is s by itself, and as a part of others.
func places(s string) []string {
	return []string{s, "[" + s + "]", "[null," + s + ",1]", `{"a":` + s + "}", `{"b":[` + s + `,{}],"a":0}`, within(8, s), withinMaps(3, within(3, s)), " " + s + "\n"}
}

// reads holds Decode against a value.
func reads(t *testing.T, s string, want api.Value) {
	t.Helper()
	v, err := json.Decode([]byte(s))
	if err != api.OK || !value.Same(v, want) {
		t.Errorf("Decode(%s) = %s, %d, not %s", brief(s), show(v), err, show(want))
	}
}

// fails holds Decode against an error.
func fails(t *testing.T, s string, want int) {
	t.Helper()
	v, err := json.Decode([]byte(s))
	if err != want || !reflect.DeepEqual(v, api.Value{}) {
		t.Errorf("Decode(%s) = %s, %d, not %d", brief(s), show(v), err, want)
	}
}

// ends holds Decode against an error, or 0, whatever the value is.
func ends(t *testing.T, s string, want int) {
	t.Helper()
	if want != api.OK {
		fails(t, s, want)
	} else if _, err := json.Decode([]byte(s)); err != api.OK {
		t.Errorf("Decode(%s): %d", brief(s), err)
	}
}

// writes holds Encode against a text.
func writes(t *testing.T, v api.Value, want string) {
	t.Helper()
	b, err := json.Encode(v)
	if err != api.OK || string(b) != want {
		t.Errorf("Encode(%s) = %s, %d, not %s", show(v), brief(string(b)), err, brief(want))
	}
}

// refuses holds Encode against an error.
func refuses(t *testing.T, v api.Value, want int) {
	t.Helper()
	b, err := json.Encode(v)
	if err != want || len(b) != 0 {
		t.Errorf("Encode(%s) = %s, %d, not %d", show(v), brief(string(b)), err, want)
	}
}

// comesBack holds Decode of Encode against the value.
func comesBack(t *testing.T, v api.Value) {
	t.Helper()
	b, err := json.Encode(v)
	if err != api.OK {
		t.Errorf("Encode(%s): %d", show(v), err)
		return
	}
	reads(t, string(b), v)
}

// brief is a text that fits into a report.
func brief(s string) string {
	if len(s) > 120 {
		return strconv.QuoteToASCII(s[:60]) + ".." + strconv.QuoteToASCII(s[len(s)-30:]) + " of " + strconv.Itoa(len(s)) + " bytes"
	}
	return strconv.QuoteToASCII(s)
}

// show is a value that fits into a report, by its parts: what Encode tells may be what is wrong.
func show(v api.Value) string {
	s := "{" + strconv.Itoa(v.Kind)
	if v.Int != (api.Int{}) {
		s += " " + strconv.FormatBool(v.Int.Neg)
		for _, limb := range v.Int.N {
			s += " " + strconv.FormatUint(limb, 16)
		}
	}
	if v.Bits != 0 {
		s += " bits " + strconv.FormatUint(v.Bits, 16)
	}
	if v.Text != "" {
		s += " " + brief(v.Text)
	}
	for i := range min(len(v.Keys), 4) {
		s += " " + brief(v.Keys[i])
	}
	for i := range min(len(v.List), 4) {
		s += " " + show(v.List[i])
	}
	if len(v.List) > 4 {
		s += " .. of " + strconv.Itoa(len(v.List))
	}
	return s + "}"
}
