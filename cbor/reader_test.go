package cbor_test

import (
	"encoding/binary"
	"math"
	"math/big"
	"slices"
	"strings"
	"testing"
	"unicode/utf8"

	"entrepot/api"
	"entrepot/cbor"
	"entrepot/value"
)

// Another reader, that first takes all of the bytes apart and then asks what it has come by, one
// question after the other, in the order of promise 8.1.

// item is one by its bytes, whatever it means.
type item struct {
	major, info int
	n           uint64
	chunks      []string // of texts and byte strings
	parts       []item   // of maps keys and values in turn; of a tag what stands behind it
}

type stream struct{ rest string }

type malformed struct{}

func (r *stream) take(n uint64) string {
	if n > uint64(len(r.rest)) {
		panic(malformed{})
	}
	s := r.rest[:n]
	r.rest = r.rest[n:]
	return s
}

// item takes one; a break, only if it may be.
func (r *stream) item(mayBreak bool) item {
	first := r.take(1)[0]
	it := item{major: int(first >> 5), info: int(first & 31)}
	switch it.info {
	case 24:
		it.n = uint64(r.take(1)[0])
	case 25:
		it.n = uint64(binary.BigEndian.Uint16([]byte(r.take(2))))
	case 26:
		it.n = uint64(binary.BigEndian.Uint32([]byte(r.take(4))))
	case 27:
		it.n = binary.BigEndian.Uint64([]byte(r.take(8)))
	default:
		it.n = uint64(it.info)
	}
	isOpen := it.info == 31
	if it.info >= 28 && !isOpen || isOpen && (it.major < byteString || it.major == tag || it.major == simple && !mayBreak) || it.major == simple && it.info == 24 && it.n < 32 {
		panic(malformed{})
	}
	switch {
	case it.major == tag:
		it.parts = []item{r.item(false)}
	case isOpen && it.major != simple:
		r.open(&it)
	case it.major == byteString, it.major == textString:
		it.chunks = []string{r.take(it.n)}
	case it.major == array:
		for range it.n {
			it.parts = append(it.parts, r.item(false))
		}
	case it.major == mapping:
		for range it.n {
			it.parts = append(it.parts, r.item(false), r.item(false))
		}
	}
	return it
}

func (r *stream) open(it *item) {
	for {
		part := r.item(it.major != mapping || len(it.parts)%2 == 0)
		switch {
		case part.major == simple && part.info == 31:
			return
		case it.major == array, it.major == mapping:
			it.parts = append(it.parts, part)
		case part.major == it.major && part.info != 31:
			it.chunks = append(it.chunks, part.chunks...)
		default:
			panic(malformed{})
		}
	}
}

func wellFormed(s string) (it item, ok bool) {
	defer func() {
		if err := recover(); err != nil {
			_, ok = err.(malformed)
			if !ok {
				panic(err)
			}
			ok = false
		}
	}()
	r := stream{s}
	it = r.item(false)
	return it, r.rest == ""
}

func (it item) data() string { return strings.Join(it.chunks, "") }

func (it item) valid() bool {
	seen := map[string]bool{}
	for i, p := range it.parts {
		if !p.valid() {
			return false
		}
		if it.major == mapping && i%2 == 0 && p.major == textString {
			if seen[p.data()] {
				return false
			}
			seen[p.data()] = true
		}
	}
	return it.major != textString || !slices.ContainsFunc(it.chunks, func(s string) bool { return !utf8.ValidString(s) })
}

// within is the parts that count: of a map's, all but names.
func (it item) within() []item {
	var out []item
	for i, p := range it.parts {
		if it.major != mapping || i%2 == 1 || p.major != textString {
			out = append(out, p)
		}
	}
	return out
}

func (it item) depth() int {
	d := 0
	for _, p := range it.within() {
		d = max(d, p.depth())
	}
	if it.major == tag {
		return d
	}
	return d + 1
}

func (it item) nodes() int {
	n := 0
	for _, p := range it.within() {
		n += p.nodes()
	}
	if it.major == tag {
		return n
	}
	return n + 1
}

func (it item) long() bool {
	return len(it.data()) > 4096 || it.major == array && len(it.parts) > 1000 || it.major == mapping && len(it.parts) > 2000 || slices.ContainsFunc(it.parts, item.long)
}

// meaning is the value; one without a kind, if it can't be had.
func (it item) meaning() api.Value {
	switch it.major {
	case unsigned:
		return integer(new(big.Int).SetUint64(it.n))
	case negative:
		return integer(new(big.Int).Not(new(big.Int).SetUint64(it.n)))
	case byteString:
		return raw(it.data())
	case textString:
		return text(it.data())
	case tag:
		n := new(big.Int).SetBytes([]byte(it.parts[0].data()))
		if it.n == 3 {
			n.Not(n)
		}
		if it.n != 2 && it.n != 3 || it.parts[0].major != byteString {
			return api.Value{}
		}
		return integer(n)
	case array:
		v := list()
		for _, p := range it.parts {
			v.List = append(v.List, p.meaning())
		}
		return wholly(v)
	case mapping:
		return it.members()
	}
	switch it.info {
	case 20:
		return no
	case 21:
		return yes
	case 22:
		return null
	case 25:
		return number(halfOf(it.n))
	case 26:
		return number(float64(math.Float32frombits(uint32(it.n))))
	case 27:
		return number(math.Float64frombits(it.n))
	}
	return api.Value{}
}

func (it item) members() api.Value {
	found := map[string]api.Value{}
	v := object("")
	for i := 0; i < len(it.parts); i += 2 {
		if it.parts[i].major != textString {
			return api.Value{}
		}
		name := it.parts[i].data()
		v.Keys = append(v.Keys, name)
		found[name] = it.parts[i+1].meaning()
	}
	slices.Sort(v.Keys)
	for _, name := range v.Keys {
		v.List = append(v.List, found[name])
	}
	return wholly(v)
}

// wholly is v, if all in it can be had.
func wholly(v api.Value) api.Value {
	for _, e := range v.List {
		if e.Kind == 0 {
			return api.Value{}
		}
	}
	return v
}

// integer is a whole number's value; none, if it is too great.
func integer(n *big.Int) api.Value {
	if n.BitLen() > 256 || new(big.Int).Abs(n).BitLen() > 256 {
		return api.Value{}
	}
	v := plus()
	v.Int.Neg = n.Sign() < 0
	var b [32]byte
	new(big.Int).Abs(n).FillBytes(b[:])
	for i := range v.Int.N {
		v.Int.N[i] = binary.BigEndian.Uint64(b[24-8*i:])
	}
	return v
}

func bigOf(a api.Int) *big.Int {
	n := new(big.Int)
	for _, limb := range slices.Backward(a.N[:]) {
		n.Lsh(n, 64).Or(n, new(big.Int).SetUint64(limb))
	}
	if a.Neg {
		n.Neg(n)
	}
	return n
}

// number is a float's value.
func number(f float64) api.Value {
	if math.IsNaN(f) {
		return bits(nan)
	}
	if f == math.Trunc(f) && !math.IsInf(f, 0) {
		n, _ := big.NewFloat(f).Int(nil)
		if v := integer(n); v.Kind != 0 {
			return v
		}
	}
	return floating(f)
}

// halfOf is as RFC 8949's appendix D reads it.
func halfOf(h uint64) float64 {
	exp, mant := int(h>>10&0x1F), float64(h&0x3FF)
	f := math.Ldexp(mant+1024, exp-25)
	switch {
	case exp == 0:
		f = math.Ldexp(mant, -24)
	case exp == 31 && mant == 0:
		f = math.Inf(1)
	case exp == 31:
		f = math.NaN()
	}
	if h&0x8000 != 0 {
		return -f
	}
	return f
}

func told(s string) (api.Value, int) {
	if len(s) > 65536 {
		return api.Value{}, api.ErrLimit
	}
	it, ok := wellFormed(s)
	switch {
	case !ok || !it.valid():
		return api.Value{}, api.ErrSyntax
	case it.depth() > 16:
		return api.Value{}, api.ErrDepth
	case it.nodes() > 10_000 || it.long():
		return api.Value{}, api.ErrLimit
	}
	v := it.meaning()
	if v.Kind == 0 {
		return api.Value{}, api.ErrUnrep
	}
	return v, api.OK
}

// tally counts what was told, by its error.
type tally map[int]int

// hold holds Decode against the other reader, and what it reads against Encode.
func (n tally) hold(t *testing.T, s string) {
	t.Helper()
	want, wantErr := told(s)
	v, err := cbor.Decode([]byte(s))
	if err != wantErr || !value.Same(v, want) {
		t.Errorf("Decode(%s) = %s, %d, not %s, %d", brief(s), show(v), err, show(want), wantErr)
	}
	if err == api.OK {
		comesBack(t, v)
	}
	n[err]++
}

func (n tally) atLeast(t *testing.T, least int, errs ...int) {
	t.Helper()
	for _, err := range errs {
		if n[err] < least {
			t.Errorf("of error %d only %d", err, n[err])
		}
	}
}

// Each document that is some other one with a piece taken out, put in, doubled or changed.
func TestAgainstAnotherReader(t *testing.T) {
	docs := []string{
		"a361618301386318ff6162bf60f4627878f9380062c3a9c249010000000000000000ff61637f61616162ff",
		"9f5f42010240ff7f62c3a960ff9fff80bfffa0f5f6fb3fb999999999999afa3dcccccdf97e00ff", "84c2430000ffc35f41ff40ffd8024105c35820ffffffffffffffffffffffffffffffffffffffffffffffffffffffffffffffff",
		"a26161a261620161630261627f6161616bff", "bf616101616202ff", "8281818181818181818181818181818100a161618181819f9fffff", "83f8ffe0c1a10102a0", "a1a161610281a0a16162c0a0", "8f818181819f819f8181819f818181818180ffffff0102030405060708090a0b0c0d0e",
	}
	pieces := []string{"", "\x00", "\x17", "\x18", "\x20", "\x3B", "\x40", "\x41", "\x58", "\x5F", "\x60", "\x61", "\x61a", "\x62", "\x7F", "\x80", "\x81", "\x98", "\x9F", "\xA0", "\xA1", "\xA1\x60", "\xBF", "\xC0", "\xC2", "\xC3", "\xD8", "\xE0", "\xF4", "\xF7", "\xF8", "\xF9", "\xFA", "\xFB", "\xFF", "\x1C", "\x1F", "\xC3\xA9", "\x9F\xFF", "\xBF\xFF", "\x7F\xFF", "\x5F\xFF", "\xC2\x40", "\x82\x00", "\x81\x81\x81\x81", "\xF9\x3C\x00"}
	n := tally{}
	for _, s := range docs {
		s = unhex(t, s)
		n.hold(t, s)
		for i := range len(s) + 1 {
			for _, piece := range pieces {
				for size := 0; size <= 4 && i+size <= len(s); size++ {
					n.hold(t, s[:i]+piece+s[i+size:])
				}
			}
			for j := i + 1; j <= len(s); j++ {
				n.hold(t, s[:i]+s[j:])
				n.hold(t, s[:j]+s[i:])
			}
		}
		for i := range len(s) {
			for c := range 256 {
				n.hold(t, s[:i]+string([]byte{byte(c)})+s[i+1:])
			}
		}
	}
	n.atLeast(t, 1000, api.OK, api.ErrSyntax, api.ErrDepth, api.ErrUnrep)
}

func TestAllShortBytes(t *testing.T) {
	n := tally{}
	n.hold(t, "")
	for a := range 256 {
		n.hold(t, string([]byte{byte(a)}))
		for b := range 256 {
			n.hold(t, string([]byte{byte(a), byte(b)}))
			for _, c := range "\x00\x01\x17\x18\x20\x40\x41\x60\x61\x7f\u0080\u0081\u00a0\u00c2\u00e0\u00f4\u00f6\u00ff" {
				n.hold(t, string([]byte{byte(a), byte(b), byte(c)}))
			}
		}
	}
	n.atLeast(t, 1000, api.OK, api.ErrSyntax, api.ErrUnrep)
}

// Items put together at random, most of them of what may be.
func TestScatteredItems(t *testing.T) {
	n := tally{}
	var s source
	for range 40_000 {
		n.hold(t, s.item(1+s.below(6)))
	}
	for range 600 {
		n.hold(t, within(10+s.below(7), s.item(4)))
		n.hold(t, withinKeys(8+s.below(10), s.item(3)))
	}
	for range 200 {
		n.hold(t, items(many(990+s.below(20), s.item(1)), s.item(2)))
		n.hold(t, many(9, many(999, s.item(1))+s.item(3)))
	}
	n.atLeast(t, 100, api.OK, api.ErrSyntax, api.ErrDepth, api.ErrLimit, api.ErrUnrep)
}
