package version_test

import (
	"math"
	"testing"

	"wardship/api"
	"wardship/version"
)

// P11.1: a version is one of the latest if its By is zero, whichever replica has another number in it, and whichever number that is.
func TestHead(t *testing.T) {
	for _, number := range ids() {
		for _, data := range []string{"", "a", "\x00"} {
			v := latest(number, data)
			if !version.Head(v) {
				t.Errorf("Head(%v) = false", v)
			}
			for i := range 8 {
				for _, n := range []uint32{1, 2, 255, 256, 1 << 16, 1 << 20, 1 << 31, math.MaxUint32} {
					v.By = api.Vec{}
					v.By[i] = n
					if version.Head(v) {
						t.Errorf("Head(%v) = true", v)
					}
				}
			}
			for _, by := range vectors()[1:] {
				if version.Head(replaced(v, by)) {
					t.Errorf("Head of By %v = true", by)
				}
			}
		}
	}
}

// P11.1: a zero version is one of the latest.
func TestHeadOfZero(t *testing.T) {
	if !version.Head(api.Version{}) {
		t.Error("Head of a zero version = false")
	}
}

// P11.1: none of the latest, one and several, wherever they are, in their order and as they were.
func TestKnownHeads(t *testing.T) {
	a, b, c := latest(id(3, 2), "a"), latest(id(2, 5), ""), latest(id(1, 7), "\x00c")
	old := replaced(latest(id(1, 1), "old"), api.Vec{0, 5, 2})
	older := replaced(latest(id(1, 6), "older"), api.Vec{7: 1})
	for _, x := range []struct{ l, want []api.Version }{
		{nil, nil},
		{[]api.Version{}, nil},
		{[]api.Version{old}, nil},
		{[]api.Version{old, older}, nil},
		{[]api.Version{a}, []api.Version{a}},
		{[]api.Version{old, a, older}, []api.Version{a}},
		{[]api.Version{a, older}, []api.Version{a}},
		{[]api.Version{old, a}, []api.Version{a}},
		{[]api.Version{a, b, c}, []api.Version{a, b, c}},
		{[]api.Version{old, a, b, older, c}, []api.Version{a, b, c}},
		{[]api.Version{a, b, older, c}, []api.Version{a, b, c}},
		{[]api.Version{old, a, b, older}, []api.Version{a, b}},
	} {
		same(t, "Heads", version.Heads(x.l), x.want)
		same(t, "Heads of the heads", version.Heads(version.Heads(x.l)), x.want)
	}
	if got := version.Heads([]api.Version{old, a}[:1]); len(got) != 0 {
		t.Errorf("Heads of none of the latest: %v", got)
	}
}

// P11.1: each choice of which of five versions are the latest, with each By that others can have.
func TestHeadsOfAllChoices(t *testing.T) {
	for _, by := range vectors()[1:] {
		for choice := range 1 << 5 {
			l := numbered(id(1, 1), id(2, 1), id(1, 2), id(8, 2), id(1, 1<<20))
			var want []api.Version
			for i := range l {
				if choice>>i&1 == 0 {
					l[i].By = by
				} else {
					want = append(want, l[i])
				}
			}
			same(t, "Heads", version.Heads(l), want)
		}
	}
}

// P11.1: the zero number has no bytes, whether or not there are versions.
func TestDataOfZero(t *testing.T) {
	for _, l := range [][]api.Version{nil, {}, {latest(id(1, 1), "a")}, {latest(id(0, 1), "a")}, numbered(ids()...)} {
		isData(t, l, api.ID{}, "", api.OK)
	}
}

// P11.1: the bytes of versions that are there, the latest and others, and of numbers that aren't there.
func TestKnownData(t *testing.T) {
	l := []api.Version{
		replaced(latest(id(1, 1), "old"), api.Vec{0, 5, 2}),
		latest(id(3, 2), "\x00\xff\xc3"),
		latest(id(2, 5), ""),
		replaced(latest(id(3, 5), "é"), api.Vec{7: math.MaxUint32}),
	}
	isData(t, l, id(1, 1), "old", api.OK)
	isData(t, l, id(3, 2), "\x00\xff\xc3", api.OK)
	isData(t, l, id(2, 5), "", api.OK)
	isData(t, l, id(3, 5), "é", api.OK)
	for _, number := range []api.ID{id(1, 2), id(1, 5), id(2, 1), id(2, 2), id(3, 1), id(3, 4), id(3, 6), id(4, 5), id(5, 3), id(0, 1), id(1, 0), id(0, 5), id(3, 0), id(-3, 5), id(9, 9), id(1, math.MaxUint32)} {
		isData(t, l, number, "", api.ErrNone)
		isData(t, nil, number, "", api.ErrNone)
		isData(t, []api.Version{}, number, "", api.ErrNone)
	}
	isData(t, l[:2], id(2, 5), "", api.ErrNone)
}

// P11.1: each number finds its own bytes alone, though others are alike in their replica or in their sequence.
func TestDataOfEachNumber(t *testing.T) {
	all := ids()
	for missing := range len(all) + 1 {
		var l []api.Version
		for i, number := range all {
			if i != missing {
				l = append(l, latest(number, string(rune('a'+i))))
			}
		}
		for i, number := range all {
			switch {
			case number == api.ID{}:
				isData(t, l, number, "", api.OK)
			case i == missing:
				isData(t, l, number, "", api.ErrNone)
			default:
				isData(t, l, number, string(rune('a'+i)), api.OK)
			}
		}
	}
}

// P11.1: bytes of more than MaxData, which no call here makes, are answered as they are.
func TestDataOfLongBytes(t *testing.T) {
	long := zeros(1000) + "x"
	isData(t, []api.Version{latest(id(1, 1), long)}, id(1, 1), long, api.OK)
}
