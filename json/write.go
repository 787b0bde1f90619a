package json

import (
	"entrepot/api"
	"entrepot/dyad"
)

// appendValue is of what is In JSON.
func appendValue(b []byte, v api.Value) []byte {
	switch v.Kind {
	case api.KBool:
		return append(b, boolText(v.Bits)...)
	case api.KInt:
		return append(b, printInt(v.Int)...)
	case api.KFloat:
		text, _ := dyad.Print(v.Bits)
		return append(b, text...)
	case api.KText:
		return appendText(b, v.Text)
	case api.KArray:
		return append(appendItems(append(b, '['), v), ']')
	case api.KMap:
		return append(appendItems(append(b, '{'), v), '}')
	}
	return append(b, "null"...)
}

func boolText(bits uint64) string {
	if bits == 0 {
		return "false"
	}
	return "true"
}

// appendItems stops where the text is too long already: lists may hold the same long text many
// times, so that all of it may be far more than what is kept.
func appendItems(b []byte, v api.Value) []byte {
	for i, e := range v.List {
		if len(b) > api.MaxBytes {
			break
		}
		if i > 0 {
			b = append(b, ',')
		}
		if v.Kind == api.KMap {
			b = append(appendText(b, v.Keys[i]), ':')
		}
		b = appendValue(b, e)
	}
	return b
}
