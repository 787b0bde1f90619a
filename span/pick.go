package span

import (
	"entrepot/api"
	"entrepot/whole"
)

// Pick is promise 9.2's. Going from where a span is nearest to 0, the first number of the kind on either
// side is the nearest one; if it is out of the span, there is none on that side.
func Pick(l []api.Span, exact, rough bool) (api.Int, bool) {
	if !May(l) {
		return api.Int{}, false
	}
	var best api.Int
	found := false
	for _, s := range l {
		for _, step := range steps(exact, rough) {
			a, ok := step(nearest(s))
			if ok && holds(s, a) && (!found || isNearer(a, best)) {
				best, found = a, true
			}
		}
	}
	return best, found
}

func steps(exact, rough bool) []func(api.Int) (api.Int, bool) {
	var out []func(api.Int) (api.Int, bool)
	if exact {
		out = append(out, whole.ExactUp, whole.ExactDown)
	}
	if rough {
		out = append(out, whole.RoughUp, whole.RoughDown)
	}
	return out
}

// nearest is the number of a span that is least in size; an empty one has one of its ends, or 0, which it
// does not hold. An end that is not there is 0, so that it never is the answer by itself.
func nearest(s api.Span) api.Int {
	zero := api.Int{}
	switch {
	case whole.Cmp(s.Lo, zero) > 0:
		return s.Lo
	case whole.Cmp(s.Hi, zero) < 0:
		return s.Hi
	}
	return zero
}

func isNearer(a, b api.Int) bool {
	c := whole.Cmp(api.Int{N: a.N}, api.Int{N: b.N})
	return c < 0 || c == 0 && !a.Neg
}
