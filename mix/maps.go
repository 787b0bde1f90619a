package mix

import (
	"slices"
	"strings"

	"entrepot/api"
)

// member is what two Maps say of a name: the types that they ask of it.
type member struct {
	name string
	i, j int
	must bool
}

func (m member) mayBe() bool { return m.i != none && m.j != none }

// bothMaps is false, if what must be there by the one can't be by the other. It asks for the
// numbers of types only where it is true.
func bothMaps(a, b api.Map, number numbering) (api.Map, bool) {
	l := members(a, b)
	if slices.ContainsFunc(l, func(m member) bool { return m.must && !m.mayBe() }) {
		return api.Map{}, false
	}
	out := api.Map{Rest: none}
	for _, m := range l {
		if m.mayBe() {
			out.Fields = append(out.Fields, api.Field{Name: m.name, Type: number(m.i, m.j), Must: m.must})
		}
	}
	if a.Rest != none && b.Rest != none {
		out.Rest = number(a.Rest, b.Rest)
	}
	return out, true
}

// members is of the names that one of two Maps names, rising.
func members(a, b api.Map) []member {
	var names []string
	for _, f := range slices.Concat(a.Fields, b.Fields) {
		names = append(names, f.Name)
	}
	slices.Sort(names)
	var out []member
	for _, name := range slices.Compact(names) {
		f, g := field(a, name), field(b, name)
		out = append(out, member{name: name, i: f.Type, j: g.Type, must: f.Must || g.Must})
	}
	return out
}

// field is what a Map says of a name, by its Rest where its Fields don't name it.
func field(m api.Map, name string) api.Field {
	at, ok := slices.BinarySearchFunc(m.Fields, name, func(f api.Field, name string) int { return strings.Compare(f.Name, name) })
	if ok {
		return m.Fields[at]
	}
	return api.Field{Name: name, Type: m.Rest}
}
