package json

import (
	"maps"
	"slices"
	"strings"

	"entrepot/api"
	"entrepot/dyad"
)

const blanks = " \t\n\r"

// reader reads rest from its beginning on; long, unrep: it has come by such a number.
// What its methods answer beside a false is of no use.
type reader struct {
	rest        string
	long, unrep bool
}

// document is a value with nothing behind it.
func (r *reader) document() (api.Value, bool) {
	v, ok := r.value()
	r.skipBlanks()
	return v, ok && r.rest == ""
}

func (r *reader) value() (api.Value, bool) {
	switch {
	case r.sign("null"):
		return api.Value{Kind: api.KNull}, true
	case r.sign("false"):
		return api.Value{Kind: api.KBool, Bits: 0}, true
	case r.sign("true"):
		return api.Value{Kind: api.KBool, Bits: 1}, true
	case r.sign(quote):
		text, ok := r.text()
		return api.Value{Kind: api.KText, Text: text}, ok
	case r.sign("["):
		return r.array()
	case r.sign("{"):
		return r.object()
	}
	return r.number()
}

// array is read from behind its bracket on, as is an object.
func (r *reader) array() (api.Value, bool) {
	v := api.Value{Kind: api.KArray}
	if r.sign("]") {
		return v, true
	}
	for {
		e, ok := r.value()
		if !ok {
			return api.Value{}, false
		}
		v.List = append(v.List, e)
		if !r.sign(",") {
			return v, r.sign("]")
		}
	}
}

func (r *reader) object() (api.Value, bool) {
	members := map[string]api.Value{}
	if r.sign("}") {
		return ordered(members), true
	}
	for {
		name, ok := r.name()
		if !ok {
			return api.Value{}, false
		}
		if _, twice := members[name]; twice {
			return api.Value{}, false
		}
		if members[name], ok = r.value(); !ok {
			return api.Value{}, false
		}
		if !r.sign(",") {
			return ordered(members), r.sign("}")
		}
	}
}

// name is a member's, with the colon behind it.
func (r *reader) name() (string, bool) {
	if !r.sign(quote) {
		return "", false
	}
	name, ok := r.text()
	return name, ok && r.sign(":")
}

func ordered(members map[string]api.Value) api.Value {
	v := api.Value{Kind: api.KMap, Keys: slices.Sorted(maps.Keys(members))}
	for _, key := range v.Keys {
		v.List = append(v.List, members[key])
	}
	return v
}

func (r *reader) number() (api.Value, bool) {
	size := numberSize(r.rest)
	v, err := dyad.Parse(r.rest[:size])
	r.rest = r.rest[size:]
	switch err {
	case api.ErrLimit:
		r.long = true
	case api.ErrUnrep:
		r.unrep = true
	case api.OK:
		return v, true
	}
	return api.Value{Kind: api.KNull}, err != api.ErrSyntax
}

// sign takes s, and blanks ahead of it; false, if something else stands there.
func (r *reader) sign(s string) bool {
	r.skipBlanks()
	return r.cut(s)
}

func (r *reader) skipBlanks() { r.rest = strings.TrimLeft(r.rest, blanks) }

// cut takes s itself.
func (r *reader) cut(s string) bool {
	rest, ok := strings.CutPrefix(r.rest, s)
	r.rest = rest
	return ok
}
