package whole

import (
	"strings"

	"entrepot/api"
	"entrepot/nat"
)

const minus = "-"

// Print is promise 2.1's.
func Print(a api.Int) string {
	switch {
	case !May(a):
		return ""
	case a.Neg:
		return minus + nat.Print(a.N)
	}
	return nat.Print(a.N)
}

// Parse is promise 2.1's.
func Parse(s string) (api.Int, bool) {
	digits, neg := strings.CutPrefix(s, minus)
	n, ok := nat.Parse(digits)
	a := api.Int{Neg: neg, N: n}
	if !ok || !May(a) { // no Print is -0
		return api.Int{}, false
	}
	return a, true
}
