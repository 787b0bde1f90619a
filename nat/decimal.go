package nat

import (
	"strconv"
	"strings"

	"entrepot/api"
)

// Digits are split off by as many as a limb holds, so that a long number takes few divisions.
const (
	pieceDigits        = 19
	pieceWorth  uint64 = 10_000_000_000_000_000_000
)

// Print is promise 1.2's.
func Print(a api.Nat) string {
	var text string
	for {
		quotient, rest, _ := Div(a, pieceWorth)
		piece := strconv.FormatUint(rest, 10)
		if quotient == Of(0) {
			return piece + text
		}
		text = strings.Repeat("0", pieceDigits-len(piece)) + piece + text
		a = quotient
	}
}

// Parse is promise 1.2's. Noughts ahead are refused, for no Print has them.
func Parse(s string) (api.Nat, bool) {
	if s == "" || len(s) > 1 && s[0] == '0' {
		return api.Nat{}, false
	}
	var a api.Nat
	for i := range len(s) {
		var ok bool
		if a, ok = withDigit(a, s[i]); !ok {
			return api.Nat{}, false
		}
	}
	return a, true
}

func withDigit(a api.Nat, digit byte) (api.Nat, bool) {
	if digit < '0' || digit > '9' {
		return api.Nat{}, false
	}
	tens, ok := Mul(a, 10)
	if !ok {
		return api.Nat{}, false
	}
	return Add(tens, Of(uint64(digit-'0')))
}
