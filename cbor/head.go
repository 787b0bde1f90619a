package cbor

// Major types.
const (
	unsignedType = iota
	negativeType
	bytesType
	textType
	arrayType
	mapType
	tagType
	simpleType
)

// Additional information: less than oneByte is the number itself; from there on each tells twice as
// many bytes as the one ahead of it.
const (
	infoBits   = 5
	oneByte    = 24
	twoBytes   = 25
	fourBytes  = 26
	eightBytes = 27
	open       = 31 // a length that is not told; of simpleType it is the break
)

// head is what an item begins with.
type head struct {
	major, info int
	n           uint64
}

func (h head) isOpen() bool  { return h.info == open }
func (h head) isBreak() bool { return h.isOpen() && h.major == simpleType }

// may is whether there are such heads, whatever stands behind the first byte.
func (h head) may() bool {
	if h.isOpen() {
		return h.major >= bytesType && h.major != tagType
	}
	return h.info <= eightBytes
}

// size is how many bytes the number has.
func (h head) size() int {
	if h.info < oneByte || h.isOpen() {
		return 0
	}
	return 1 << (h.info - oneByte)
}

// head takes one; false, if there is none.
func (r *reader) head() (head, bool) {
	if r.rest == "" {
		return head{}, false
	}
	first := int(r.rest[0])
	h := head{major: first >> infoBits, info: first & (1<<infoBits - 1)}
	if !h.may() || len(r.rest) <= h.size() {
		return head{}, false
	}
	if h.info < oneByte {
		h.n = uint64(h.info)
	}
	for i := range h.size() {
		h.n = h.n<<8 | uint64(r.rest[1+i])
	}
	r.rest = r.rest[1+h.size():]
	return h, true
}

// appendShortest is the shortest head that tells n.
func appendShortest(b []byte, major int, n uint64) []byte {
	if n < oneByte {
		return appendHead(b, head{major, int(n), n})
	}
	h := head{major, oneByte, n}
	for h.info < eightBytes && n>>(8*h.size()) != 0 {
		h.info++
	}
	return appendHead(b, h)
}

func appendHead(b []byte, h head) []byte {
	b = append(b, byte(h.major<<infoBits|h.info))
	for i := h.size() - 1; i >= 0; i-- {
		b = append(b, byte(h.n>>(8*i)))
	}
	return b
}
