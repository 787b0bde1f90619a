package value

import (
	"slices"

	"entrepot/api"
	"entrepot/float"
	"entrepot/whole"
)

// In is promise 6.3's.
func In(v api.Value, lang int) bool {
	if May(v) != api.OK {
		return false
	}
	switch lang {
	case api.JSON:
		return !has(v, notJSON)
	case api.CBOR:
		return true
	case api.Proto:
		return v.Kind == api.KMap && !has(v, notProto)
	}
	return false
}

// notJSON is of v by itself, as is notProto.
func notJSON(v api.Value) bool {
	return v.Kind == api.KBytes || v.Kind == api.KFloat && float.Class(v.Bits) != api.FPlain
}

func notProto(v api.Value) bool {
	switch v.Kind {
	case api.KNull:
		return true
	case api.KInt:
		return !isProtoNumber(v.Int)
	case api.KArray:
		return slices.ContainsFunc(v.List, isArray)
	}
	return false
}

// isProtoNumber is of 64 bits, by either sign, or a double.
func isProtoNumber(a api.Int) bool {
	_, signed := whole.ToInt(a)
	_, unsigned := whole.ToUint(a)
	return signed || unsigned || whole.Exact(a)
}

func isArray(v api.Value) bool { return v.Kind == api.KArray }
