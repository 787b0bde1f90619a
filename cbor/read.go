package cbor

import (
	"maps"
	"slices"
	"strings"

	"entrepot/api"
	"entrepot/float"
	"entrepot/nat"
	"entrepot/utf"
	"entrepot/value"
	"entrepot/whole"
)

// Simple values; those below firstOfTwo are told in one byte alone.
const (
	simpleFalse = 20
	simpleTrue  = 21
	simpleNull  = 22
	firstOfTwo  = 32
)

// reader reads rest from its beginning on. It has come by so many nodes, by levels as far down as
// deepest; long: by more bytes or items than may be; unrep: by something that can't be had.
// What its methods answer beside a false is of no use.
type reader struct {
	rest           string
	nodes, deepest int
	long, unrep    bool
}

func (r *reader) item(level int) (api.Value, bool) {
	h, ok := r.head()
	if !ok {
		return api.Value{}, false
	}
	return r.behind(h, level)
}

// behind is the item that h begins. A tag is no level and no node of its own.
func (r *reader) behind(h head, level int) (api.Value, bool) {
	if h.major == tagType {
		v, ok := r.item(level)
		return r.tagged(h.n, v), ok
	}
	r.nodes++
	r.deepest = max(r.deepest, level)
	switch h.major {
	case unsignedType:
		return api.Value{Kind: api.KInt, Int: whole.OfUint(h.n)}, true
	case negativeType:
		return r.number(below(nat.Of(h.n))), true
	case bytesType:
		s, ok := r.text(h)
		return api.Value{Kind: api.KBytes, Text: s}, ok
	case textType:
		s, ok := r.text(h)
		return api.Value{Kind: api.KText, Text: s}, ok
	case arrayType:
		return r.array(h, level+1)
	case mapType:
		return r.members(h, level+1)
	}
	return r.simple(h)
}

// parts hands on the heads of what stands in h's item, one by one; part reads each to its end.
func (r *reader) parts(h head, part func(first head) bool) bool {
	for n := uint64(0); h.isOpen() || n < h.n; n++ {
		first, ok := r.head()
		if h.isOpen() && first.isBreak() {
			return true
		}
		if !ok || !part(first) {
			return false
		}
	}
	return true
}

// text is the bytes of a text or a byte string.
func (r *reader) text(h head) (string, bool) {
	if !h.isOpen() {
		s, ok := r.chunk(h)
		r.count(len(s), api.MaxText)
		return s, ok
	}
	var all strings.Builder
	ok := r.parts(h, func(first head) bool {
		if first.major != h.major || first.isOpen() {
			return false
		}
		s, ok := r.chunk(first)
		all.WriteString(s)
		return ok
	})
	r.count(all.Len(), api.MaxText)
	return all.String(), ok
}

func (r *reader) chunk(h head) (string, bool) {
	if h.n > uint64(len(r.rest)) {
		return "", false
	}
	s := r.rest[:h.n]
	r.rest = r.rest[h.n:]
	return s, h.major == bytesType || utf.Valid(s)
}

// array has its elements at that level, as members have their values, and keys that are no texts.
func (r *reader) array(h head, level int) (api.Value, bool) {
	v := api.Value{Kind: api.KArray}
	ok := r.parts(h, func(first head) bool {
		e, ok := r.behind(first, level)
		v.List = append(v.List, e)
		return ok
	})
	r.count(len(v.List), api.MaxItems)
	return v, ok
}

func (r *reader) members(h head, level int) (api.Value, bool) {
	members := map[string]api.Value{}
	n := 0
	ok := r.parts(h, func(first head) bool {
		n++
		if first.major == textType {
			return r.member(members, first, level)
		}
		r.unrep = true
		if _, ok := r.behind(first, level); !ok {
			return false
		}
		_, ok := r.item(level)
		return ok
	})
	r.count(n, api.MaxItems)
	return ordered(members), ok
}

// member is one of a name that none of the members has.
func (r *reader) member(members map[string]api.Value, first head, level int) bool {
	name, ok := r.text(first)
	if !ok {
		return false
	}
	if _, twice := members[name]; twice {
		return false
	}
	members[name], ok = r.item(level)
	return ok
}

func ordered(members map[string]api.Value) api.Value {
	v := api.Value{Kind: api.KMap, Keys: slices.Sorted(maps.Keys(members))}
	for _, key := range v.Keys {
		v.List = append(v.List, members[key])
	}
	return v
}

// count is of n bytes or items, of which there may be so many.
func (r *reader) count(n, most int) { r.long = r.long || n > most }

func (r *reader) simple(h head) (api.Value, bool) {
	switch h.info {
	case simpleFalse:
		return api.Value{Kind: api.KBool, Bits: 0}, true
	case simpleTrue:
		return api.Value{Kind: api.KBool, Bits: 1}, true
	case simpleNull:
		return api.Value{Kind: api.KNull}, true
	case twoBytes:
		return value.Number(float.Half(uint16(h.n))), true
	case fourBytes:
		return value.Number(float.Single(uint32(h.n))), true
	case eightBytes:
		return value.Number(h.n), true
	}
	// A break may not stand here: parts takes those that may be.
	return r.lost(), !h.isBreak() && (h.info != oneByte || h.n >= firstOfTwo)
}

// lost stands in the place of what can't be had.
func (r *reader) lost() api.Value {
	r.unrep = true
	return api.Value{Kind: api.KNull}
}
