package version_test

import (
	"math"
	"slices"
	"testing"

	"wardship/api"
)

// P11.2: a first version, and versions without a base before all, behind all and between two; the others stay as they were.
func TestAddInOrder(t *testing.T) {
	first := latest(id(1, 1), "a")
	isAdd(t, nil, nil, first, []api.Version{first}, api.OK)
	isAdd(t, []api.Version{}, []api.ID{}, first, []api.Version{first}, api.OK)
	l := []api.Version{latest(id(2, 2), "x"), replaced(latest(id(1, 4), "y"), api.Vec{3}), latest(id(3, 4), "z")}
	for at, places := range [][]api.ID{
		{id(1, 1), id(8, 1), id(9, 1), id(1, 2), {}, id(8, 0), id(-1, 2)},
		{id(3, 2), id(8, 2), id(1, 3), id(2, 3), id(0, 4), id(-5, 4)},
		{id(2, 4)},
		{id(4, 4), id(8, 4), id(1, 5), id(2, math.MaxUint32), id(9, math.MaxUint32)},
	} {
		for _, number := range places {
			v := latest(number, "new")
			isAdd(t, l, nil, v, slices.Insert(slices.Clone(l), at, v), api.OK)
		}
	}
}

// P11.2: v is inserted as it is: its bytes, and its own By.
func TestAddedAsItIs(t *testing.T) {
	for _, by := range vectors() {
		for _, data := range []string{"", "a", "\x00\xff", letters(1000)} {
			v := replaced(latest(id(2, 3), data), by)
			isAdd(t, nil, nil, v, []api.Version{v}, api.OK)
			l := numbered(id(1, 1), id(1, 5))
			isAdd(t, l, nil, v, []api.Version{l[0], v, l[1]}, api.OK)
			isAdd(t, l, []api.ID{id(1, 5)}, v, []api.Version{l[0], v, replaced(l[1], api.Vec{0, 3})}, api.OK)
		}
	}
}

// P11.2: the versions of base, and they alone, are replaced: one, several, all, the same one twice, in any order.
func TestAddToBase(t *testing.T) {
	l := numbered(id(1, 1), id(2, 1), id(1, 2), id(3, 7))
	v := latest(id(4, 5), "new")
	for _, base := range [][]int{{}, {0}, {1}, {2}, {3}, {0, 1}, {1, 0}, {3, 0}, {0, 2, 3}, {0, 1, 2, 3}, {3, 2, 1, 0}, {0, 0}, {3, 3, 3}, {1, 2, 1}, {2, 1, 2, 1}} {
		want := slices.Clone(l)
		var numbers []api.ID
		for _, at := range base {
			numbers = append(numbers, l[at].ID)
			want[at].By = api.Vec{3: 5}
		}
		isAdd(t, l, numbers, v, slices.Insert(want, 3, v), api.OK)
	}
}

// P11.2: the base has no more than eight numbers in an event, but may have here.
func TestAddToLongBase(t *testing.T) {
	var l, want []api.Version
	var base []api.ID
	for seq := range uint32(100) {
		old := latest(id(1+int(seq%8), seq+1), "old")
		l, want, base = append(l, old), append(want, replaced(old, api.Vec{6: 101})), append(base, old.ID)
	}
	v := latest(id(7, 101), "new")
	want = append(want, v)
	isAdd(t, l, base, v, want, api.OK)
	isAdd(t, l, slices.Concat(base, base), v, want, api.OK)
	isAdd(t, l, append(base, id(8, 101)), v, nil, api.ErrNone)
}

// P11.2: what the By of a replaced version held stays, and the greater number of v's replica counts.
func TestAddToBysThatHold(t *testing.T) {
	for _, by := range vectors() {
		for rep := 1; rep <= 8; rep++ {
			for _, seq := range []uint32{1, 2, 3, 255, 1 << 20, 1 << 31, math.MaxUint32} {
				v := latest(id(rep, seq), "new")
				old := replaced(latest(id(9, 1), "old"), by)
				want := old
				if seq > by[rep-1] {
					want.By[rep-1] = seq
				}
				isAdd(t, []api.Version{old}, []api.ID{old.ID}, v, listed(asSet([]api.Version{want, v})), api.OK)
			}
		}
	}
}

// P11.2: where v has a number that no event has, With adds nothing, and the versions of base stay.
func TestAddOfNoEvent(t *testing.T) {
	for _, number := range []api.ID{{}, id(0, 1), id(-1, 3), id(9, 3), id(math.MaxInt, 1), id(math.MinInt, 1), id(1, 0), id(8, 0)} {
		old := replaced(latest(id(2, 2), "old"), api.Vec{0, 0, 4})
		v := latest(number, "new")
		isAdd(t, []api.Version{old}, []api.ID{old.ID}, v, listed(asSet([]api.Version{old, v})), api.OK)
	}
}

// P11.2: a version of base that isn't there, wherever it stands, also where others are and where v's number is there already.
func TestAddWithoutItsBase(t *testing.T) {
	l := []api.Version{latest(id(1, 1), "a"), replaced(latest(id(2, 3), "b"), api.Vec{5}), latest(id(1, 5), "c")}
	for _, missing := range []api.ID{{}, id(0, 1), id(1, 0), id(2, 1), id(1, 2), id(1, 3), id(2, 5), id(3, 3), id(1, 6), id(-1, 1), id(9, 9), id(4, 4)} {
		for _, base := range [][]api.ID{{missing}, {missing, missing}, {id(1, 1), missing}, {missing, id(1, 1)}, {id(1, 1), id(2, 3), missing, id(1, 5)}} {
			for _, number := range []api.ID{id(4, 4), id(1, 1), id(2, 3), id(1, 5), id(8, 8), {}} {
				isAdd(t, l, base, latest(number, "v"), nil, api.ErrNone)
			}
		}
		for _, none := range [][]api.Version{nil, {}} {
			isAdd(t, none, []api.ID{missing}, latest(id(4, 4), "v"), nil, api.ErrNone)
		}
	}
	isAdd(t, l[:2], []api.ID{id(1, 5)}, latest(id(4, 4), "v"), nil, api.ErrNone)
}

// P11.2: a number that is there already, be it one of the latest or not, whatever else v says.
func TestAddOfWhatIsThere(t *testing.T) {
	l := []api.Version{latest(id(1, 1), "a"), replaced(latest(id(2, 3), "b"), api.Vec{5}), latest(id(1, 5), "c")}
	for _, old := range l {
		for _, base := range [][]api.ID{nil, {}, {id(1, 1)}, {id(2, 3)}, {id(1, 5)}, {id(1, 1), id(2, 3), id(1, 5)}, {id(1, 5), id(1, 5)}} {
			isAdd(t, l, base, old, nil, api.ErrOld)
			isAdd(t, l, base, latest(old.ID, "other"), nil, api.ErrOld)
			isAdd(t, l, base, replaced(old, api.Vec{1, 2, 3}), nil, api.ErrOld)
		}
	}
	isAdd(t, []api.Version{{}}, nil, api.Version{}, nil, api.ErrOld)
}

// P11.2: a base with v's own number is one that isn't there, unless it is, and then v is old.
func TestAddToItself(t *testing.T) {
	l := numbered(id(1, 1), id(2, 3))
	isAdd(t, l, []api.ID{id(4, 4)}, latest(id(4, 4), "v"), nil, api.ErrNone)
	isAdd(t, l, []api.ID{id(1, 1), id(4, 4)}, latest(id(4, 4), "v"), nil, api.ErrNone)
	isAdd(t, nil, []api.ID{id(4, 4)}, latest(id(4, 4), "v"), nil, api.ErrNone)
	isAdd(t, l, []api.ID{id(2, 3)}, latest(id(2, 3), "v"), nil, api.ErrOld)
	isAdd(t, l, []api.ID{id(2, 3), id(4, 4)}, latest(id(2, 3), "v"), nil, api.ErrNone)
}

// P11.2: each number is added to a list of all others, with each one as its base.
func TestAddOfEachNumber(t *testing.T) {
	all := ids()
	for i, number := range all {
		l := numbered(slices.Delete(slices.Clone(all), i, i+1)...)
		v := latest(number, "new")
		isAdd(t, l, nil, v, slices.Insert(slices.Clone(l), i, v), api.OK)
		for _, other := range all {
			want, e := expectAdd(l, []api.ID{other}, v)
			isAdd(t, l, []api.ID{other}, v, want, e)
			if (e == api.OK) != (other != number) {
				t.Fatalf("Add of %v to %v: %d expected", number, other, e)
			}
		}
	}
}

// P11.2: versions that are added in any order come to the same list.
func TestAddInAnyOrder(t *testing.T) {
	numbers := []api.ID{id(1, 1), id(3, 1), id(1, 2), id(2, 2), id(1, 3)}
	for order := range orders(len(numbers)) {
		var l []api.Version
		for _, at := range order {
			l = added(t, l, latest(numbers[at], "a"))
		}
		same(t, "Add in any order", l, numbered(numbers...))
	}
}
