package mix_test

import (
	"math"
	"reflect"
	"strings"
	"testing"

	"entrepot/api"
	"entrepot/mix"
	"entrepot/types"
)

// Promise 14.1: wrong inputs.

// refused is what Or, And and Clean must not take.
func refused(t *testing.T, l []api.Type, i, j int) {
	t.Helper()
	for _, c := range calls {
		mixes(t, c, l, i, j, api.ErrArg)
		mixes(t, c, l, j, i, api.ErrArg)
	}
	for _, k := range []int{i, j} {
		if k >= 0 && k < len(l) && types.May(l) == api.OK {
			continue
		}
		given := clones(l)
		if got, n := mix.Clean(given, k); len(got) != 0 || n != 0 || !same(given, l) {
			t.Errorf("Clean(%s, %d) = %s, %d", show(l), k, show(got), n)
		}
	}
}

func TestOfNoSuchNumbers(t *testing.T) {
	for _, n := range []int{0, 1, 2, 3, 199, 200} {
		l := make([]api.Type, n)
		for k := range l {
			l[k] = everything(k)
		}
		for _, i := range []int{-1, -2, n, n + 1, 2 * n, 200, 201, 256, 1 << 32, 1<<32 + 1, math.MinInt, math.MaxInt} {
			if i >= 0 && i < n {
				continue
			}
			refused(t, l, i, i)
			refused(t, l, i, 0)
			refused(t, l, i, n-1)
		}
		if n > 0 {
			for _, c := range calls {
				want := api.OK
				if n == 200 { // where both numbers are those of types, but there is no room
					want = api.ErrLimit
				}
				mixes(t, c, l, n-1, 0, want)
				mixes(t, c, l, n-1, n-1, want)
			}
			walked(t, l, n-1)
		}
	}
}

// faults is what 13.1 does not let be, each by one thing.
func faults() []func(t *api.Type) {
	long := strings.Repeat("a", 4097)
	field := func(fields ...api.Field) func(t *api.Type) {
		return func(t *api.Type) { t.Maps = append(t.Maps, api.Map{Fields: fields, Rest: -1}) }
	}
	array := func(a api.Arr) func(t *api.Type) { return func(t *api.Type) { t.Arrays = append(t.Arrays, a) } }
	return []func(t *api.Type){
		func(t *api.Type) { t.Floats = -1 }, func(t *api.Type) { t.Floats = 32 },
		func(t *api.Type) { t.Ints = []api.Span{{Lo: num("1")}} }, func(t *api.Type) { t.Exact = []api.Span{{HasHi: true, Hi: api.Int{Neg: true}}} },
		func(t *api.Type) { t.Ints = copies(1001, spans("1")[0]) }, func(t *api.Type) { t.Exact = copies(1001, spans("..")[0]) },
		func(t *api.Type) { t.Texts = []api.Texts{texts(0, -1, "(")} }, func(t *api.Type) { t.Texts = []api.Texts{texts(0, -2)} }, func(t *api.Type) { t.Texts = []api.Texts{texts(4097, -1)} }, func(t *api.Type) { t.Texts = []api.Texts{texts(0, 1, copies(9, "a")...)} },
		func(t *api.Type) { t.Bytes = []api.Size{size(-1, 0)} }, func(t *api.Type) { t.Bytes = []api.Size{size(0, 4097)} },
		array(arr(0, 0, 1001)), array(arr(0, 1001, -1)), array(arr(3, 0, -1)), array(arr(-2, 0, -1)), array(arr(0, 0, -1, -1)), array(arr(0, 0, -1, 3)), array(arr(0, 0, -1, make([]int, 9)...)),
		field(api.Field{Type: 3}), field(api.Field{Type: -1}), field(api.Field{Name: "\xFF"}), field(api.Field{Name: long}), field(api.Field{Name: "b"}, api.Field{Name: "a"}), field(api.Field{Name: "a"}, api.Field{Name: "a", Must: true}),
		func(t *api.Type) { t.Maps = []api.Map{maps(3, "")} }, func(t *api.Type) { t.Maps = []api.Map{maps(-2, "")} }, func(t *api.Type) { t.Maps = []api.Map{{Rest: -1, Fields: make([]api.Field, 51)}} },
		func(t *api.Type) { t.Texts = make([]api.Texts, 21) }, func(t *api.Type) { t.Bytes = make([]api.Size, 21) }, func(t *api.Type) { t.Arrays = make([]api.Arr, 21) }, func(t *api.Type) { t.Maps = make([]api.Map, 21) },
	}
}

// None of the types may be otherwise than 13.1 says, be it asked for, led to, or not. Where there is no room for more either, that is told all the same.
func TestOfTypesThatMayNotBe(t *testing.T) {
	for n, fault := range faults() {
		for at := range 3 {
			l := these(everything(0), api.Type{Null: true}, everything(0))
			fault(&l[at])
			if types.May(l) == api.OK {
				t.Fatalf("fault %d: %s", n, show(l))
			}
			for i := range 3 {
				for j := range 3 {
					refused(t, l, i, j)
				}
			}
			refused(t, l, -1, 3)
			if more := padded(l, 200); types.May(more) != api.OK { // a number that is none may be one among more
				refused(t, more, 0, 1)
			}
		}
	}
}

// Too many types: what they are told as by 13.1 does not matter.
func TestOfTooManyTypes(t *testing.T) {
	for _, n := range []int{201, 202, 1000} {
		refused(t, make([]api.Type, n), 0, 1)
		refused(t, make([]api.Type, n), n-1, n-1)
		refused(t, make([]api.Type, n), n, -1)
		refused(t, copies(n, everything(0)), 0, 0)
	}
}

// Values that may not be for their size or depth alone are asked all the same (13.2), others are in nothing.
func TestOfValuesThatMayNotBe(t *testing.T) {
	l := these(api.Type{Null: true, Ints: spans("0.."), Arrays: []api.Arr{arr(0, 0, -1)}, Maps: []api.Map{maps(0, "a0")}}, everything(1), api.Type{Null: true, Arrays: []api.Arr{arr(2, 0, 1000)}, Maps: []api.Map{maps(2, "")}})
	values := []api.Value{
		nested(60, null), nested(60, one), mapped(60, null), mapped(60, one), list(copies(1001, null)...), list(copies(1000, null)...), wide(1001, null), wide(1001, one), word(strings.Repeat("a", 5000)),
		{}, {Kind: 9}, boolean(2), floating(1), word("\xFF"), object("b a", null, null), list(boolean(2)), member("a", api.Value{}), {Kind: api.KNull, Bits: 1}, object("a", one, one),
	}
	for _, c := range calls {
		for i := range l {
			for j := range l {
				follows(t, c, l, i, j, values)
			}
		}
	}
	meets(t, l, 0, 1, values[:8], values[8:])
	meets(t, l, 0, 2, []api.Value{nested(60, null), mapped(60, null), list(copies(1000, null)...), wide(1001, null)}, []api.Value{nested(60, one), list(copies(1001, null)...), wide(1001, one)})
}

// roomy is l with room behind each list in it.
func roomy[T any](l []T) []T { return append(make([]T, 0, len(l)+9), l...) }

// What stands behind a list that is handed in, in the same memory, is the caller's.
func TestOfWhatStandsBehind(t *testing.T) {
	l := roomy(letters(ofArrays(arr(0, 0, -1, 0), arr(2, 1, 1)), ofArrays(arr(3, 0, -1, 3, 3)), ofMaps(maps(3, "a0 b0")), ofMaps(maps(0, "a0 c2"), maps(0, ""))))
	for i := range l {
		t := &l[i]
		t.Ints, t.Exact, t.Bytes = roomy(spans("1 3")), roomy(spans("2 2^60")), roomy([]api.Size{size(0, 1), size(1, 2)})
		t.Texts, t.Arrays, t.Maps = roomy([]api.Texts{texts(0, 5, "a*"), texts(0, 7, "b*")}), roomy(t.Arrays), roomy(t.Maps)
		for k := range t.Arrays {
			t.Arrays[k].Prefix = roomy(t.Arrays[k].Prefix)
		}
		for k := range t.Maps {
			t.Maps[k].Fields = roomy(t.Maps[k].Fields)
		}
		for k := range t.Texts {
			t.Texts[k].Res = roomy(t.Texts[k].Res)
		}
	}
	kept := clones(l)
	for i := range l {
		for j := range l {
			for _, c := range calls {
				got, _, e := c.ask(l, i, j)
				if e != api.OK {
					t.Fatal(c.name, i, j, e)
				}
				spoil(got)
			}
			got, _ := mix.Clean(l, i)
			spoil(got)
		}
	}
	if !same(l, kept) {
		t.Error("changed")
	}
	behind(t, l)
	for _, x := range l {
		behind(t, x.Ints)
		behind(t, x.Exact)
		behind(t, x.Texts)
		behind(t, x.Bytes)
		behind(t, x.Arrays)
		behind(t, x.Maps)
		for _, y := range x.Texts {
			behind(t, y.Res)
		}
		for _, y := range x.Arrays {
			behind(t, y.Prefix)
		}
		for _, y := range x.Maps {
			behind(t, y.Fields)
		}
	}
}

func behind[T any](t *testing.T, l []T) {
	t.Helper()
	var zero T
	for _, x := range l[len(l):cap(l)] {
		if !reflect.DeepEqual(x, zero) {
			t.Errorf("behind %v: %v", l, x)
		}
	}
}
