package cbor_test

import (
	"encoding/hex"
	"math"
	"reflect"
	"strconv"
	"strings"
	"testing"

	"entrepot/api"
	"entrepot/cbor"
	"entrepot/value"
)

const (
	full     = 1<<64 - 1
	infinity = 0x7FF0000000000000
	nan      = 0x7FF8000000000000
	sign     = 1 << 63
)

// Major types.
const (
	unsigned = iota
	negative
	byteString
	textString
	array
	mapping
	tag
	simple
)

// Where a length stands, the one that is not told; and the break.
const (
	openBytes = "\x5F"
	openText  = "\x7F"
	openArray = "\x9F"
	openMap   = "\xBF"
	stop      = "\xFF"
)

var (
	null = api.Value{Kind: api.KNull}
	no   = api.Value{Kind: api.KBool}
	yes  = api.Value{Kind: api.KBool, Bits: 1}
	one  = plus(1)
	half = floating(0.5)
)

// plus and minus are the whole numbers of these limbs, the least one first.
func plus(limbs ...uint64) api.Value {
	v := api.Value{Kind: api.KInt}
	copy(v.Int.N[:], limbs)
	return v
}

func minus(limbs ...uint64) api.Value {
	v := plus(limbs...)
	v.Int.Neg = true
	return v
}

func bits(b uint64) api.Value       { return api.Value{Kind: api.KFloat, Bits: b} }
func floating(f float64) api.Value  { return bits(math.Float64bits(f)) }
func text(s string) api.Value       { return api.Value{Kind: api.KText, Text: s} }
func raw(s string) api.Value        { return api.Value{Kind: api.KBytes, Text: s} }
func list(l ...api.Value) api.Value { return api.Value{Kind: api.KArray, List: l} }

// object is a map of names, divided by blanks, to their values.
func object(names string, l ...api.Value) api.Value {
	return api.Value{Kind: api.KMap, Keys: strings.Fields(names), List: l}
}

// member is a map of one name.
func member(name string, v api.Value) api.Value {
	return api.Value{Kind: api.KMap, Keys: []string{name}, List: []api.Value{v}}
}

// copies is n times v.
func copies(n int, v api.Value) []api.Value {
	l := make([]api.Value, n)
	for i := range l {
		l[i] = v
	}
	return l
}

// nested is v within n arrays.
func nested(n int, v api.Value) api.Value {
	for range n {
		v = list(v)
	}
	return v
}

// names is n of them that rise.
func names(n int) []string {
	out := make([]string, n)
	for i := range out {
		out[i] = strconv.Itoa(10_000 + i)
	}
	return out
}

// head is one whose number has so many bytes: 0 (in the first one), 1, 2, 4, 8.
func head(major, width int, n uint64) string {
	if width == 0 {
		return string([]byte{byte(major<<5) + byte(n)})
	}
	out := []byte{byte(major<<5) + map[int]byte{1: 24, 2: 25, 4: 26, 8: 27}[width]}
	for i := range width {
		out = append(out, byte(n>>(8*(width-1-i))))
	}
	return string(out)
}

// heads is all that tell the number, the shortest one first.
func heads(major int, n uint64) []string {
	var out []string
	for _, width := range []int{0, 1, 2, 4, 8} {
		if width == 0 && n < 24 || width > 0 && n>>(8*width-1)>>1 == 0 {
			out = append(out, head(major, width, n))
		}
	}
	return out
}

func shortest(major, n int) string { return heads(major, uint64(n))[0] }
func said(s string) string         { return shortest(textString, len(s)) + s }
func blob(s string) string         { return shortest(byteString, len(s)) + s }
func items(l ...string) string     { return shortest(array, len(l)) + strings.Join(l, "") }

// pairs is a map of keys and values in turn.
func pairs(l ...string) string { return shortest(mapping, len(l)/2) + strings.Join(l, "") }

// many is an array of n times s, or of something else an open one.
func many(n int, s string) string { return shortest(array, n) + strings.Repeat(s, n) }

func openMany(n int, s string) string { return openArray + strings.Repeat(s, n) + stop }

// wide is a map of n names to s.
func wide(n int, s string) string {
	out := shortest(mapping, n)
	for _, name := range names(n) {
		out += said(name) + s
	}
	return out
}

// numbered is a map of n whole numbers to s.
func numbered(n int, s string) string {
	out := shortest(mapping, n)
	for i := range n {
		out += shortest(unsigned, i) + s
	}
	return out
}

// within is s in n arrays.
func within(n int, s string) string { return strings.Repeat("\x81", n) + s }

func withinOpen(n int, s string) string {
	return strings.Repeat(openArray, n) + s + strings.Repeat(stop, n)
}

func withinMaps(n int, s string) string { return strings.Repeat("\xA1\x61m", n) + s }

// withinKeys is s as a key of a map that is a key, and so on.
func withinKeys(n int, s string) string {
	return strings.Repeat("\xA1", n) + s + strings.Repeat("\xF6", n)
}

// places is s by itself, and as a part of others that hold nothing wrong.
func places(s string) []string {
	return []string{
		s, items(s), items("\xF6", s, "\x01"), openArray + "\x01" + s + stop, pairs(said("a"), s), pairs(said("b"), items(s, "\xA0"), said("a"), "\x00"), openMap + said("a") + s + said("b") + "\xF4" + stop, within(8, s), withinMaps(3, withinOpen(3, s)),
	}
}

// reads holds Decode against a value.
func reads(t *testing.T, s string, want api.Value) {
	t.Helper()
	v, err := cbor.Decode([]byte(s))
	if err != api.OK || !value.Same(v, want) {
		t.Errorf("Decode(%s) = %s, %d, not %s", brief(s), show(v), err, show(want))
	}
}

// fails holds Decode against an error.
func fails(t *testing.T, s string, want int) {
	t.Helper()
	v, err := cbor.Decode([]byte(s))
	if err != want || !reflect.DeepEqual(v, api.Value{}) {
		t.Errorf("Decode(%s) = %s, %d, not %d", brief(s), show(v), err, want)
	}
}

// ends holds Decode against an error, or 0, whatever the value is.
func ends(t *testing.T, s string, want int) {
	t.Helper()
	if want != api.OK {
		fails(t, s, want)
	} else if _, err := cbor.Decode([]byte(s)); err != api.OK {
		t.Errorf("Decode(%s): %d", brief(s), err)
	}
}

// writes holds Encode against bytes.
func writes(t *testing.T, v api.Value, want string) {
	t.Helper()
	b, err := cbor.Encode(v)
	if err != api.OK || string(b) != want {
		t.Errorf("Encode(%s) = %s, %d, not %s", show(v), brief(string(b)), err, brief(want))
	}
}

// refuses holds Encode against an error.
func refuses(t *testing.T, v api.Value, want int) {
	t.Helper()
	b, err := cbor.Encode(v)
	if err != want || len(b) != 0 {
		t.Errorf("Encode(%s) = %s, %d, not %d", show(v), brief(string(b)), err, want)
	}
}

// comesBack holds Decode of Encode against the value.
func comesBack(t *testing.T, v api.Value) {
	t.Helper()
	b, err := cbor.Encode(v)
	if err != api.OK {
		t.Errorf("Encode(%s): %d", show(v), err)
		return
	}
	reads(t, string(b), v)
}

// unhex is bytes by their digits, with blanks as one likes.
func unhex(t *testing.T, s string) string {
	t.Helper()
	b, err := hex.DecodeString(strings.ReplaceAll(s, " ", ""))
	if err != nil {
		t.Fatal(s, err)
	}
	return string(b)
}

// brief is bytes that fit into a report.
func brief(s string) string {
	if len(s) > 60 {
		return hex.EncodeToString([]byte(s[:30])) + ".." + hex.EncodeToString([]byte(s[len(s)-15:])) + " of " + strconv.Itoa(len(s)) + " bytes"
	}
	return hex.EncodeToString([]byte(s))
}

// show is a value that fits into a report, by its parts.
func show(v api.Value) string {
	s := "{" + strconv.Itoa(v.Kind)
	if v.Int != (api.Int{}) {
		s += " " + strconv.FormatBool(v.Int.Neg)
		for _, limb := range v.Int.N {
			s += " " + strconv.FormatUint(limb, 16)
		}
	}
	if v.Bits != 0 {
		s += " bits " + strconv.FormatUint(v.Bits, 16)
	}
	if v.Text != "" {
		s += " " + brief(v.Text)
	}
	for i := range min(len(v.Keys), 4) {
		s += " " + brief(v.Keys[i])
	}
	for i := range min(len(v.List), 4) {
		s += " " + show(v.List[i])
	}
	if len(v.List) > 4 {
		s += " .. of " + strconv.Itoa(len(v.List))
	}
	return s + "}"
}
