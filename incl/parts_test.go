package incl_test

import (
	"testing"

	"entrepot/api"
	"entrepot/types"
)

// letters is types 0 of null, 1 of bools, 2 of either, 3 of whole numbers, 4 of nothing; others stand behind.
func letters(more ...api.Type) []api.Type {
	return append(these(api.Type{Null: true}, api.Type{False: true, True: true}, api.Type{Null: true, False: true, True: true}, ofInts(".."), api.Type{}), more...)
}

const behind = 5 // the first type behind the letters

func arrays(l ...api.Arr) []api.Arr { return l }

// Promise 15.1: arrays by their lengths, Prefixes and Rests.
func TestArrays(t *testing.T) {
	for _, x := range []struct {
		a, b       []api.Arr
		there, and int // a in b, b in a
	}{
		{arrays(arr(0, 0, -1)), arrays(arr(0, 0, -1)), api.Yes, api.Yes},
		{arrays(arr(0, 0, -1)), arrays(arr(2, 0, -1)), api.Yes, api.No},
		{arrays(arr(0, 0, -1)), arrays(arr(3, 0, -1)), api.No, api.No},
		{arrays(arr(0, 0, 3)), arrays(arr(0, 0, -1)), api.Yes, api.No},
		{arrays(arr(0, 1, -1)), arrays(arr(0, 0, -1)), api.Yes, api.No},
		{arrays(arr(0, 2, 2)), arrays(arr(-1, 2, 2, 0, 0)), api.Yes, api.Yes},
		{arrays(arr(0, 2, 2)), arrays(arr(-1, 2, -1, 0, 0)), api.Yes, api.Yes},
		{arrays(arr(0, 0, 2)), arrays(arr(-1, 0, -1, 0, 0)), api.Yes, api.Yes},
		{arrays(arr(0, 0, -1, 0)), arrays(arr(0, 0, -1, 0, 0, 0)), api.Yes, api.Yes},
		{arrays(arr(0, 0, -1, 3)), arrays(arr(0, 0, -1, 0, 0, 0)), api.No, api.No},
		{arrays(arr(0, 0, -1, 0, 1)), arrays(arr(2, 0, -1, 0)), api.Yes, api.No},
		{arrays(arr(0, 0, 1, 2)), arrays(arr(3, 0, 1, 2)), api.Yes, api.Yes},
		{arrays(arr(0, 0, 1, 2)), arrays(arr(3, 0, 2, 2)), api.Yes, api.No},
		{arrays(arr(0, 3, 5)), arrays(arr(0, 5, 7)), api.No, api.No},
		{arrays(arr(0, 3, 5)), arrays(arr(0, 6, 7)), api.No, api.No},
		{arrays(arr(0, 5, 5)), arrays(arr(0, 3, 5)), api.Yes, api.No},
		{arrays(arr(0, 3, 5)), arrays(arr(0, 3, 4), arr(0, 5, 5)), api.Yes, api.Yes},
		{arrays(arr(0, 0, -1)), arrays(arr(0, 0, 1), arr(0, 2, -1)), api.Yes, api.Yes},
		{arrays(arr(0, 0, -1)), arrays(arr(0, 0, 1), arr(0, 3, -1)), api.No, api.Yes},
		{arrays(arr(0, 0, -1)), arrays(arr(0, 0, 999)), api.No, api.Yes},
		{arrays(arr(0, 0, -1)), arrays(arr(0, 0, 1000)), api.Unknown, api.Yes},
		{arrays(arr(4, 0, -1)), arrays(arr(-1, 0, -1)), api.Yes, api.Yes},
		{arrays(arr(3, 0, -1, 4)), arrays(arr(-1, 0, 0)), api.Yes, api.Yes},
		{arrays(arr(0, 1, 1)), arrays(arr(4, 0, -1, 0)), api.Yes, api.No},
		{arrays(arr(2, 0, -1)), arrays(arr(0, 0, -1), arr(1, 0, -1)), api.No, api.Yes},
		{arrays(arr(2, 0, 1)), arrays(arr(0, 0, 1), arr(1, 0, 1)), api.Yes, api.Yes},
		{arrays(arr(2, 0, 2)), arrays(arr(0, 0, 2), arr(1, 0, 2)), api.No, api.Yes},
		{arrays(arr(2, 0, -1)), arrays(arr(2, 0, -1, 0), arr(2, 0, -1, 1)), api.Yes, api.Yes},
		{arrays(arr(2, 2, 2)), arrays(arr(2, 2, 2, 0), arr(2, 2, 2, 1, 0), arr(2, 2, 2, 1, 1)), api.Yes, api.Yes},
		{arrays(arr(2, 2, 2)), arrays(arr(-1, 2, 2, 0, 0), arr(-1, 2, 2, 0, 1), arr(-1, 2, 2, 1, 0)), api.No, api.Yes},
		{arrays(arr(2, 3, 3)), arrays(arr(2, 3, 3, 0, 0), arr(2, 3, 3, 1, 1), arr(2, 0, -1, 2, 0, 0), arr(2, 0, -1, 2, 1, 1), arr(2, 0, -1, 0, 2, 0), arr(2, 0, -1, 1, 2, 1)), api.Yes, api.No},
		{arrays(arr(2, 3, 3)), arrays(arr(2, 3, 3, 0, 0), arr(2, 3, 3, 1, 1), arr(2, 0, -1, 2, 0, 0), arr(2, 0, -1, 2, 1, 1), arr(2, 0, -1, 0, 2, 0)), api.No, api.No},
		{arrays(arr(2, 1, -1)), arrays(arr(0, 0, -1), arr(1, 0, -1), arr(2, 2, -1)), api.Yes, api.No},
		{arrays(arr(2, 1, -1)), arrays(arr(0, 0, -1), arr(1, 0, -1), arr(2, 3, -1)), api.No, api.No},
		{arrays(arr(2, 3, -1)), arrays(arr(0, 0, -1, 2, 2), arr(1, 0, -1, 2, 2)), api.No, api.No},
		{arrays(arr(2, 8, 8)), arrays(arr(2, 8, -1, 0, 2, 2, 2, 2, 2, 2, 2), arr(2, 0, 8, 1)), api.Yes, api.No},
		{arrays(arr(2, 9, 9)), arrays(arr(0, 0, -1, 2, 2, 2, 2, 2, 2, 2, 2), arr(1, 0, -1, 2, 2, 2, 2, 2, 2, 2, 2)), api.Yes, api.No},
	} {
		l := letters(ofArrays(x.a...), ofArrays(x.b...))
		asks(t, l, behind, behind+1, x.there)
		asks(t, l, behind+1, behind, x.and)
	}
}

// Promise 15.1: where fewer elements may be there than parts of b, one of them is out of several.
func TestFewElements(t *testing.T) {
	l := these(ofInts("0..9"), ofInts("0..3"), ofInts("3..6"), ofInts("6..8"), ofInts("6..9"), ofInts("0..8"))
	for _, x := range []struct {
		a    api.Arr
		b    []api.Arr
		want int
	}{
		{arr(0, 1, 1), arrays(arr(1, 0, 1), arr(2, 0, 1)), api.No},
		{arr(0, 1, 1), arrays(arr(1, 0, 1), arr(2, 0, 1), arr(3, 0, 1)), api.No},
		{arr(0, 1, 1), arrays(arr(1, 0, 1), arr(2, 0, 1), arr(4, 0, 1)), api.Yes},
		{arr(0, 0, 2), arrays(arr(1, 0, 1), arr(2, 0, 1), arr(4, 0, 1)), api.No},
		{arr(0, 2, 2), arrays(arr(1, 0, 2), arr(2, 0, 2), arr(4, 0, 2)), api.No},
		{arr(0, 2, 2), arrays(arr(5, 0, 2), arr(1, 0, 2), arr(2, 0, 2), arr(4, 0, 2)), api.No},
		{arr(5, 2, 2), arrays(arr(1, 0, 2), arr(2, 0, 2), arr(3, 0, 2), arr(0, 2, 2, 1), arr(0, 2, 2, 2), arr(0, 2, 2, 3)), api.Yes},
		{arr(0, 2, 2), arrays(arr(1, 0, 2), arr(2, 0, 2), arr(3, 0, 2), arr(0, 2, 2, 1), arr(0, 2, 2, 2), arr(0, 2, 2, 3)), api.No},
		{arr(0, 2, 2), arrays(arr(5, 0, 2), arr(4, 0, 2)), api.No},
		{arr(0, 1, 1), arrays(arr(5, 0, 2), arr(4, 0, 2)), api.Yes},
	} {
		asks(t, append(l, ofArrays(x.a), ofArrays(x.b...)), len(l), len(l)+1, x.want)
	}
}

// A value of one type that is found on the way is not taken for one of another that has a longer Prefix.
func TestLongerPrefixes(t *testing.T) {
	for n := 1; n <= 8; n++ {
		long := arr(-1, 8, 8, 0, 0, 0, 0, 0, 0, 0, 0)
		long.Prefix[n-1] = 1
		l := letters(ofArrays(arr(0, 8, 8)), ofArrays(long), ofArrays(arr(-1, 2, 2, 5, 6)), ofArrays(arr(2, 8, 9)), ofArrays(arr(-1, 3, 3, 5, 8, 6)))
		asks(t, l, 7, noType, api.No)
		asks(t, l, 9, noType, api.No)
		asks(t, l, 8, 6, api.No)
		asks(t, l, 6, 8, api.Yes)
	}
}

// Promise 15.1: arrays of which there are none.
func TestNoArrays(t *testing.T) {
	for _, a := range []api.Arr{arr(0, 2, 1), arr(-1, 3, -1, 0, 0), arr(-1, 1, -1), arr(4, 1, -1), arr(0, 1, -1, 4), arr(0, 2, -1, 0, 4), arr(4, 3, -1, 0, 0), arr(behind, 1, 1), arr(0, 1000, -1, behind)} {
		l := letters(ofArrays(a), api.Type{})
		asks(t, l, behind, noType, api.Yes)
		for b := range l {
			asks(t, l, behind, b, api.Yes)
		}
		asks(t, l, 0, behind, api.No)
	}
	for _, a := range []api.Arr{arr(4, 0, -1), arr(0, 0, -1, 4), arr(-1, 0, 0), arr(4, 2, 2, 0, 0), arr(-1, 2, -1, 0, 0), arr(0, 1000, 1000), arr(behind, 0, -1, behind)} {
		asks(t, letters(ofArrays(a)), behind, noType, api.No)
	}
}

func records(l ...api.Map) []api.Map { return l }

// Promise 15.1: maps by their Fields and Rests.
func TestMaps(t *testing.T) {
	for _, x := range []struct {
		a, b       []api.Map
		there, and int
	}{
		{records(maps(-1, "")), records(maps(-1, "a4")), api.Yes, api.Yes},
		{records(maps(-1, "")), records(maps(4, "")), api.Yes, api.Yes},
		{records(maps(-1, "a0")), records(maps(-1, "a0")), api.Yes, api.Yes},
		{records(maps(-1, "a0!")), records(maps(-1, "a0")), api.Yes, api.No},
		{records(maps(-1, "a0")), records(maps(-1, "a2")), api.Yes, api.No},
		{records(maps(-1, "a0")), records(maps(-1, "b0")), api.No, api.No},
		{records(maps(-1, "a0")), records(maps(-1, "a0 b0")), api.Yes, api.No},
		{records(maps(-1, "a0!")), records(maps(-1, "a0! b0!")), api.No, api.No},
		{records(maps(-1, "a0! b1!")), records(maps(-1, "a2 b2")), api.Yes, api.No},
		{records(maps(-1, "a0")), records(maps(0, "")), api.Yes, api.No},
		{records(maps(0, "")), records(maps(0, "a0")), api.Yes, api.Yes},
		{records(maps(0, "")), records(maps(0, "a2")), api.Yes, api.No},
		{records(maps(0, "")), records(maps(0, "a1")), api.No, api.No},
		{records(maps(2, "a0")), records(maps(2, "")), api.Yes, api.No},
		{records(maps(0, "a3")), records(maps(2, "")), api.No, api.No},
		{records(maps(0, "a4")), records(maps(0, "")), api.Yes, api.No},
		{records(maps(0, "a4")), records(maps(0, "b4")), api.No, api.No},
		{records(maps(0, "a1 b0")), records(maps(0, "a1 c0")), api.Yes, api.Yes},
		{records(maps(0, "a1! b3")), records(maps(2, "b3 c0")), api.Yes, api.No},
		{records(maps(-1, "a0 b1!")), records(maps(0, "b1")), api.Yes, api.No},
		{records(maps(0, "a0!")), records(maps(0, "a0")), api.Yes, api.No},
		{records(maps(0, "")), records(maps(0, "a0!"), maps(0, "a4")), api.Yes, api.Yes},
		{records(maps(0, "")), records(maps(0, "a0!"), maps(0, "b0!"), maps(0, "a4 b4")), api.Yes, api.Yes},
		{records(maps(0, "")), records(maps(0, "a0!"), maps(0, "b0!"), maps(-1, "c0")), api.No, api.Yes},
		{records(maps(-1, "a2!")), records(maps(-1, "a0"), maps(-1, "a1")), api.Yes, api.No},
		{records(maps(-1, "a2!")), records(maps(-1, "a0!"), maps(-1, "a1!")), api.Yes, api.Yes},
		{records(maps(-1, "a2")), records(maps(-1, "a0"), maps(-1, "a1")), api.Yes, api.Yes},
		{records(maps(-1, "a2 b2")), records(maps(-1, "a0 b2"), maps(-1, "a1 b2")), api.Yes, api.Yes},
		{records(maps(-1, "a2 b2")), records(maps(-1, "a0 b2"), maps(-1, "a1 b0")), api.No, api.Yes},
		{records(maps(-1, "a2! b2!")), records(maps(-1, "a0! b0!"), maps(-1, "a0! b1!"), maps(-1, "a1! b0!"), maps(-1, "a1! b1!")), api.Yes, api.Yes},
		{records(maps(-1, "a2! b2!")), records(maps(-1, "a0! b0!"), maps(-1, "a0! b1!"), maps(-1, "a1! b1!")), api.No, api.Yes},
		{records(maps(2, "")), records(maps(0, ""), maps(1, "")), api.No, api.Yes},
		{records(maps(2, "a0")), records(maps(2, "a0 b0"), maps(2, "a0 b1")), api.Yes, api.Yes},
		{records(maps(2, "")), records(maps(2, "a0"), maps(2, "a1")), api.Yes, api.Yes},
		{records(maps(2, "")), records(maps(2, "a0"), maps(2, "b1")), api.No, api.Yes},
		{records(maps(2, "a1")), records(maps(2, "b2!"), maps(1, "b4"), maps(2, "a1 b4")), api.Yes, api.No},
	} {
		l := letters(ofMaps(x.a...), ofMaps(x.b...))
		asks(t, l, behind, behind+1, x.there)
		asks(t, l, behind+1, behind, x.and)
	}
}

// Promise 15.1: maps of which there are none.
func TestNoMaps(t *testing.T) {
	for _, m := range []api.Map{maps(-1, "a4!"), maps(0, "a0! b4!"), maps(-1, "a5!"), maps(5, "a0 b5!")} {
		l := letters(ofMaps(m), api.Type{})
		asks(t, l, behind, noType, api.Yes)
		for b := range l {
			asks(t, l, behind, b, api.Yes)
		}
	}
	for _, m := range []api.Map{maps(-1, ""), maps(4, ""), maps(4, "a4 b0!"), maps(5, "a5")} {
		asks(t, letters(ofMaps(m)), behind, noType, api.No)
	}
}

// A name that is shown is no one's: neither a's nor b's.
func TestNamesThatAreShown(t *testing.T) {
	a, b := maps(2, ""), maps(0, "")
	for _, name := range []string{"", "0", "1", "2", "3", "a", "b"} {
		b.Fields = append(b.Fields, api.Field{Name: name, Type: 2})
	}
	asks(t, letters(ofMaps(a), ofMaps(b)), behind, behind+1, api.No)
	a = maps(2, "")
	for _, name := range []string{"0", "1", "2"} {
		a.Fields = append(a.Fields, api.Field{Name: name, Type: 0})
	}
	asks(t, letters(ofMaps(a), ofMaps(maps(0, ""), maps(1, ""))), behind, behind+1, api.No)
}

// Promise 15.1: several parts at once, and all that a language can say.
func TestSeveralParts(t *testing.T) {
	all, most := everything(0), everything(1)
	most.Floats &^= api.FNaN
	l := these(all, most, api.Type{}, api.Type{Null: true, Texts: []api.Texts{texts(1, 2)}, Arrays: []api.Arr{arr(2, 0, -1)}, Maps: []api.Map{maps(-1, "")}})
	asks(t, l, 0, 0, api.Yes)
	asks(t, l, 1, 0, api.Yes)
	asks(t, l, 0, 1, api.No)
	asks(t, l, 3, 1, api.Yes)
	asks(t, l, 1, 3, api.No)
	for i := range l {
		asks(t, l, 2, i, api.Yes)
	}
	l, json := types.Domain(api.JSON)
	l, cbor := joinDomain(l, api.CBOR)
	l, proto := joinDomain(l, api.Proto)
	asks(t, l, json, json, api.Yes)
	asks(t, l, json, cbor, api.Yes)
	asks(t, l, cbor, json, api.No)
	asks(t, l, proto, cbor, api.Yes)
	asks(t, l, cbor, proto, api.No)
	asks(t, l, proto, json, api.No)
	asks(t, l, json, proto, api.No)
}

func joinDomain(l []api.Type, lang int) ([]api.Type, int) {
	said, i := types.Domain(lang)
	out, at := types.Join(l, said)
	return out, at + i
}

// Promise 15.1: types that lead to one another and to themselves, on one side and on both.
func TestRounds(t *testing.T) {
	pairOf := func(first, second int) api.Arr { return arr(-1, 2, 2, first, second) }
	l := letters(
		withNull(ofArrays(pairOf(3, 5))),                               // 5: a list
		withNull(ofArrays(pairOf(3, 7))),                               // 6: of an even number
		ofArrays(pairOf(3, 6)),                                         // 7: of an odd number
		withNull(ofArrays(pairOf(3, 6), pairOf(3, 7))),                 // 8: either
		withNull(ofArrays(pairOf(3, 10))),                              // 9: a list, two at a time
		withNull(ofArrays(pairOf(3, 9))),                               // 10
		ofMaps(maps(-1, "l11 r11 v3!")),                                // 11: a tree
		ofMaps(maps(-1, "l11 r12 v3!"), maps(-1, "l12 r11 v3!")),       // 12: a tree, said otherwise
		ofMaps(maps(-1, "l13 v3!")),                                    // 13: a tree without branches to the right
		ofMaps(maps(-1, "l14! v3!")),                                   // 14: one without end
		ofArrays(pairOf(3, 15)),                                        // 15: likewise
		ofArrays(pairOf(3, 17)), ofArrays(pairOf(3, 16), arr(4, 1, 1)), // 16, 17: likewise
		withNull(ofArrays(arr(18, 0, -1))),                // 18: lists of lists
		withNull(ofArrays(arr(19, 0, 1), arr(18, 2, -1))), // 19
		everything(20),
	)
	for _, x := range []struct{ a, b, want int }{
		{5, 5, api.Yes}, {6, 5, api.Yes}, {7, 5, api.Yes}, {5, 6, api.No}, {5, 7, api.No}, {6, 7, api.No}, {7, 6, api.No},
		{5, 8, api.Yes}, {8, 5, api.Yes}, {6, 8, api.Yes}, {7, 8, api.Yes}, {8, 6, api.No},
		{5, 9, api.Yes}, {9, 5, api.Yes}, {9, 10, api.Yes}, {10, 9, api.Yes}, {6, 9, api.Yes}, {9, 6, api.No},
		{11, 12, api.Yes}, {12, 11, api.Yes}, {13, 11, api.Yes}, {13, 12, api.Yes}, {11, 13, api.No}, {12, 13, api.No},
		{14, noType, api.Yes}, {14, 11, api.Yes}, {14, 4, api.Yes}, {11, 14, api.No}, {15, noType, api.Yes}, {15, 4, api.Yes},
		{16, noType, api.Yes}, {17, noType, api.Yes}, {16, 17, api.Yes}, {5, noType, api.No}, {11, noType, api.No},
		{18, 19, api.Yes}, {19, 18, api.Yes}, {18, 5, api.No}, {5, 18, api.No}, {5, 20, api.Yes}, {11, 20, api.Yes}, {20, 18, api.No},
	} {
		asks(t, l, x.a, x.b, x.want)
	}
}

// A list that must be just so long that it is told apart from one that comes round at another length.
func TestRoundsOfUnlikeLengths(t *testing.T) {
	var l []api.Type
	for i := range 5 { // 0 to 4: so many elements that 5 goes into them
		l = append(l, ofArrays(arr(-1, 1, 1, (i+1)%5)))
	}
	l[0].Null = true
	for i := range 3 { // 5 to 7: 3
		l = append(l, ofArrays(arr(-1, 1, 1, 5+(i+1)%3)))
	}
	l[5].Null = true
	l = append(l, withNull(ofArrays(arr(-1, 1, 1, 8))), ofArrays(arr(-1, 1, 1, 5), arr(-1, 1, 1, 6))) // 8: any; 9: all that 3 does not go into, and one more
	asks(t, l, 0, 8, api.Yes)
	asks(t, l, 5, 8, api.Yes)
	if v := asks(t, l, 0, 5, api.No); depthOf(v) != 6 {
		t.Error(brief(v))
	}
	if v := asks(t, l, 5, 0, api.No); depthOf(v) != 4 {
		t.Error(brief(v))
	}
	asks(t, l, 9, 5, api.No)
}
