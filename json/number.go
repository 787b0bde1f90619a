package json

import (
	"math/bits"
	"strconv"
	"strings"

	"entrepot/api"
)

const (
	figures     = "0123456789"
	chunk       = 10_000_000_000_000_000_000 // the greatest power of ten in a limb
	chunkDigits = 19
)

// numberSize is how long the number is that s begins with; 0, if there is none. It is reckoned here,
// for dyad does not tell how a long number is written. What is left behind, a nought's next digit or a
// point without digits, can't stand behind a number.
func numberSize(s string) int {
	unsigned := strings.TrimPrefix(s, "-")
	rest := strings.TrimPrefix(unsigned, "0")
	if rest == unsigned {
		rest = strings.TrimLeft(unsigned, figures)
	}
	if rest == unsigned {
		return 0
	}
	if behind, ok := strings.CutPrefix(rest, "."); ok {
		rest = afterFigures(behind, rest)
	}
	if rest != "" && (rest[0] == 'e' || rest[0] == 'E') {
		rest = afterFigures(afterSign(rest[1:]), rest)
	}
	return len(s) - len(rest)
}

// afterFigures is what stands behind the digits of s; otherwise, if it does not begin with one.
func afterFigures(s, otherwise string) string {
	rest := strings.TrimLeft(s, figures)
	if rest == s {
		return otherwise
	}
	return rest
}

func afterSign(s string) string {
	if s != "" && (s[0] == '+' || s[0] == '-') {
		return s[1:]
	}
	return s
}

// printInt is a whole number's decimals. They are reckoned here, for json does not lean on whole.
func printInt(a api.Int) string {
	if a.Neg {
		return "-" + printNat(a.N)
	}
	return printNat(a.N)
}

func printNat(n api.Nat) string {
	quotient, rest := cutChunk(n)
	low := strconv.FormatUint(rest, 10)
	if quotient == (api.Nat{}) {
		return low
	}
	return printNat(quotient) + strings.Repeat("0", chunkDigits-len(low)) + low
}

// cutChunk is n by chunk, and what is left.
func cutChunk(n api.Nat) (api.Nat, uint64) {
	rest := uint64(0)
	for i := api.Limbs - 1; i >= 0; i-- {
		n[i], rest = bits.Div64(rest, n[i], chunk)
	}
	return n, rest
}
