package dyad

import "strings"

const (
	minus   = "-"
	plus    = "+"
	point   = "."
	nought  = "0"
	figures = "0123456789"
)

// No number of maxBytes is told apart by a power of ten beyond this one: it is 0, too great or too fine.
const farPower = 10_000

// decimal is digits by 10^power. Digits neither begin nor end with 0, so that 0 has none.
type decimal struct {
	neg    bool
	digits string
	power  int
}

// read is false of what is no number as JSON writes it.
func read(s string) (decimal, bool) {
	rest, neg := strings.CutPrefix(s, minus)
	ahead, rest := cutFigures(rest)
	if ahead == "" || len(ahead) > 1 && ahead[:1] == nought {
		return decimal{}, false
	}
	behind, rest, ok := cutBehind(rest)
	if !ok {
		return decimal{}, false
	}
	power, ok := exponent(rest)
	if !ok {
		return decimal{}, false
	}
	kept := strings.TrimRight(ahead+behind, nought)
	return decimal{
		neg:    neg,
		digits: strings.TrimLeft(kept, nought),
		power:  power + len(ahead) - len(kept),
	}, true
}

func cutFigures(s string) (digits, rest string) {
	rest = strings.TrimLeft(s, figures)
	return s[:len(s)-len(rest)], rest
}

// cutBehind cuts off a point, if there is one, and the digits behind it.
func cutBehind(s string) (digits, rest string, ok bool) {
	s, ok = strings.CutPrefix(s, point)
	if !ok {
		return "", s, true
	}
	digits, rest = cutFigures(s)
	return digits, rest, digits != ""
}

// exponent is the power of ten that all of s tells: 0, if there is nothing.
func exponent(s string) (int, bool) {
	if s == "" {
		return 0, true
	}
	if s[0] != 'e' && s[0] != 'E' {
		return 0, false
	}
	digits, neg := strings.CutPrefix(s[1:], minus)
	if !neg {
		digits = strings.TrimPrefix(digits, plus)
	}
	digits, rest := cutFigures(digits)
	if digits == "" || rest != "" {
		return 0, false
	}
	power := size(digits)
	if neg {
		return -power, true
	}
	return power, true
}

// size stops at farPower, however many digits there are.
func size(digits string) int {
	n := 0
	for i := range len(digits) {
		n = min(10*n+int(digits[i]-'0'), farPower)
	}
	return n
}
