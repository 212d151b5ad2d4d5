package entry_test

import (
	"cmp"
	"iter"
	"maps"
	"math"
	"slices"
	"testing"

	"wardship/api"
	"wardship/entry"
)

// id is an event's number.
func id(rep int, seq uint32) api.ID { return api.ID{Rep: rep, Seq: seq} }

// named is an entry that is there: a name of the object 5.9 in the directory 6.3.
func named(number api.ID, name string) api.Entry {
	return api.Entry{ID: number, Dir: id(6, 3), Name: name, Obj: id(5, 9)}
}

// gone is an entry that went.
func gone(x api.Entry, by api.Vec) api.Entry {
	x.By = by
	return x
}

// numbered are entries with some numbers, all of one name.
func numbered(numbers ...api.ID) []api.Entry {
	var l []api.Entry
	for _, n := range numbers {
		l = append(l, named(n, "a"))
	}
	return l
}

// byNumber is how two entries are in order, told anew.
func byNumber(x, y api.Entry) int {
	return cmp.Or(cmp.Compare(x.ID.Seq, y.ID.Seq), cmp.Compare(x.ID.Rep, y.ID.Rep))
}

// listed is a set as a list.
func listed(set map[api.ID]api.Entry) []api.Entry {
	return slices.SortedFunc(maps.Values(set), byNumber)
}

// asSet is a list as a set.
func asSet(l []api.Entry) map[api.ID]api.Entry {
	set := map[api.ID]api.Entry{}
	for _, x := range l {
		set[x.ID] = x
	}
	return set
}

// expectAdd is what the chapter says of Add, told anew.
func expectAdd(l []api.Entry, x api.Entry) []api.Entry {
	set := asSet(l)
	if _, there := set[x.ID]; !there {
		set[x.ID] = x
	}
	return listed(set)
}

// expectKill is what the chapter says of Kill, told anew.
func expectKill(l []api.Entry, number, by api.ID) []api.Entry {
	set := asSet(l)
	if x, there := set[number]; there && by.Rep >= 1 && by.Rep <= 8 && by.Seq > x.By[by.Rep-1] {
		x.By[by.Rep-1] = by.Seq
		set[number] = x
	}
	return listed(set)
}

// expectJoin is what the chapter says of Join, told anew.
func expectJoin(a, b []api.Entry) []api.Entry {
	set := asSet(b)
	for _, x := range a {
		if other, both := set[x.ID]; both {
			for i, n := range other.By {
				if n > x.By[i] {
					x.By[i] = n
				}
			}
		}
		set[x.ID] = x
	}
	return listed(set)
}

// expectOf is what the chapter says of Of, told anew.
func expectOf(l []api.Entry, obj api.ID) []api.Entry {
	var some []api.Entry
	for _, x := range l {
		if x.Obj == obj && sum(x.By) == 0 {
			some = append(some, x)
		}
	}
	slices.SortFunc(some, byNumber)
	return some
}

// expectIn is what the chapter says of In, told anew: each entry comes behind those that it doesn't precede.
func expectIn(l []api.Entry, dir api.ID) []api.Entry {
	var some []api.Entry
	for _, x := range l {
		if x.Dir != dir || sum(x.By) != 0 {
			continue
		}
		at := len(some)
		for at > 0 && precedes(x, some[at-1]) {
			at--
		}
		some = slices.Insert(some, at, x)
	}
	return some
}

// precedes tells whether x comes before y in a directory, told anew, byte by byte.
func precedes(x, y api.Entry) bool {
	for i := range len(x.Name) {
		if i == len(y.Name) || x.Name[i] > y.Name[i] {
			return false
		}
		if x.Name[i] < y.Name[i] {
			return true
		}
	}
	return len(x.Name) < len(y.Name) || byNumber(x, y) < 0
}

// expectGone is what the chapter says of Gone, told anew: some replica has not 0, and not more than base.
func expectGone(by, base api.Vec) bool {
	which := 0
	for i := range 8 {
		if by[i] != 0 && !(by[i] > base[i]) {
			which++
		}
	}
	return which > 0
}

// expectSweep is what the chapter says of Sweep, told anew.
func expectSweep(l []api.Entry, base api.Vec) []api.Entry {
	return slices.DeleteFunc(slices.Clone(l), func(x api.Entry) bool { return expectGone(x.By, base) })
}

// sum is all numbers of a vector together.
func sum(v api.Vec) uint64 {
	var all uint64
	for _, n := range v {
		all += uint64(n)
	}
	return all
}

// same checks what a call answers.
func same(t *testing.T, call string, got, want []api.Entry) {
	t.Helper()
	if !slices.Equal(got, want) {
		t.Errorf("%s:\n%v, not\n%v", call, got, want)
	}
}

// texts checks what Shown answers.
func texts(t *testing.T, l []api.Entry, want ...string) {
	t.Helper()
	if got := entry.Shown(l); !slices.Equal(got, want) {
		t.Errorf("Shown(%v) = %q, not %q", l, got, want)
	}
}

// ids are numbers that entries may have, in their order: alike in their replica or in their sequence, at both ends, and none of an event.
func ids() []api.ID {
	return []api.ID{
		id(math.MinInt, 0), id(-1, 0), {}, id(1, 0), id(9, 0),
		id(-1, 1), id(0, 1), id(1, 1), id(2, 1), id(8, 1), id(9, 1), id(math.MaxInt, 1),
		id(1, 2), id(2, 2), id(7, 2), id(1, 3), id(8, 3), id(3, 255), id(2, 256),
		id(1, 1<<20), id(8, 1<<20), id(2, 1<<31), id(1, math.MaxUint32), id(8, math.MaxUint32), id(9, math.MaxUint32),
	}
}

// vectors are some Bys: of nothing, of one replica, of some and of all, at the least and the greatest numbers.
func vectors() []api.Vec {
	const most = math.MaxUint32
	return []api.Vec{
		{}, {1}, {2}, {most}, {7: 1}, {7: most}, {0, 2}, {0, 2, 5}, {1, 2, 3, 4, 5, 6, 7, 8}, {8, 7, 6, 5, 4, 3, 2, 1},
		{1 << 20, 1 << 20, 1 << 20, 1 << 20, 1 << 20, 1 << 20, 1 << 20, 1 << 20},
		{1, 1, 1, 1, 1, 1, 1, 1}, {most, most, most, most, most, most, most, most}, {0, most, 0, 1}, {3: 1 << 31}, {3: 1<<31 - 1},
	}
}

// dice is numbers that a plain rule makes of a seed.
type dice uint32

// roll is a number below n.
func (d *dice) roll(n int) int {
	*d = *d*1664525 + 1013904223
	return int(uint32(*d)>>8) % n
}

// vector is a vector of small numbers, most of them 0.
func (d *dice) vector() api.Vec {
	var v api.Vec
	for range d.roll(4) {
		v[d.roll(8)] = uint32(d.roll(4))
	}
	return v
}

// number is a small number.
func (d *dice) number() api.ID { return id(1+d.roll(3), uint32(1+d.roll(4))) }

// entry is an entry of a small number, of a few names, objects and directories.
func (d *dice) entry() api.Entry {
	names := []string{"a", "b", "ab", "a.", "B", "a-b", "a~2.1", "", "\xff", "é"}
	return api.Entry{ID: d.number(), Dir: id(d.roll(2), uint32(d.roll(2))), Name: names[d.roll(len(names))], Obj: id(d.roll(2), uint32(d.roll(2))), By: d.vector()}
}

// list is a list of up to so many entries, in order.
func (d *dice) list(most int) []api.Entry {
	set := map[api.ID]api.Entry{}
	for range d.roll(most + 1) {
		x := d.entry()
		set[x.ID] = x
	}
	return listed(set)
}

// orders are all orders of so many things.
func orders(n int) iter.Seq[[]int] {
	return func(yield func([]int) bool) {
		if n == 0 {
			yield(nil)
			return
		}
		for shorter := range orders(n - 1) {
			for at := range n {
				if !yield(slices.Insert(slices.Clone(shorter), at, n-1)) {
					return
				}
			}
		}
	}
}
