package version_test

import (
	"cmp"
	"iter"
	"maps"
	"math"
	"slices"
	"testing"

	"wardship/api"
	"wardship/version"
)

// id is an event's number.
func id(rep int, seq uint32) api.ID { return api.ID{Rep: rep, Seq: seq} }

// latest is a version that is one of the latest.
func latest(number api.ID, data string) api.Version { return api.Version{ID: number, Data: data} }

// replaced is a version that others replaced.
func replaced(v api.Version, by api.Vec) api.Version {
	v.By = by
	return v
}

// numbered are versions with some numbers, all of the same bytes.
func numbered(numbers ...api.ID) []api.Version {
	var l []api.Version
	for _, n := range numbers {
		l = append(l, latest(n, "a"))
	}
	return l
}

// numbers are the numbers of versions.
func numbers(l []api.Version) []api.ID {
	var all []api.ID
	for _, v := range l {
		all = append(all, v.ID)
	}
	return all
}

// byNumber is how two event numbers are in order, told anew.
func byNumber(a, b api.ID) int {
	return cmp.Or(cmp.Compare(a.Seq, b.Seq), cmp.Compare(a.Rep, b.Rep))
}

// listed is a set as a list.
func listed(set map[api.ID]api.Version) []api.Version {
	return slices.SortedFunc(maps.Values(set), func(v, w api.Version) int { return byNumber(v.ID, w.ID) })
}

// asSet is a list as a set.
func asSet(l []api.Version) map[api.ID]api.Version {
	set := map[api.ID]api.Version{}
	for _, v := range l {
		set[v.ID] = v
	}
	return set
}

// expectHead is what the chapter says of Head, told anew.
func expectHead(v api.Version) bool {
	for i := range 8 {
		if v.By[i] != 0 {
			return false
		}
	}
	return true
}

// expectHeads is what the chapter says of Heads, told anew.
func expectHeads(l []api.Version) []api.Version {
	return slices.DeleteFunc(slices.Clone(l), func(v api.Version) bool { return !expectHead(v) })
}

// expectData is what the chapter says of Data, told anew.
func expectData(l []api.Version, number api.ID) (string, api.Errno) {
	v, there := asSet(l)[number]
	switch {
	case number.Rep == 0 && number.Seq == 0:
		return "", api.OK
	case there:
		return v.Data, api.OK
	}
	return "", api.ErrNone
}

// expectPatch is what the chapter says of Patch, told anew, byte by byte.
func expectPatch(data string, off int, s string) (string, api.Errno) {
	if off < 0 || len(data) > 200 || uint64(off)+uint64(len(s)) > 200 {
		return "", api.ErrLong
	}
	var b []byte
	for i := 0; i < len(data) || i < off+len(s) || i < off; i++ {
		switch {
		case i >= off && i-off < len(s):
			b = append(b, s[i-off])
		case i < len(data):
			b = append(b, data[i])
		default:
			b = append(b, 0)
		}
	}
	return string(b), api.OK
}

// expectCut is what the chapter says of Cut, told anew, byte by byte.
func expectCut(data string, n int) (string, api.Errno) {
	if n < 0 || n > 200 {
		return "", api.ErrLong
	}
	var b []byte
	for i := range n {
		if i < len(data) {
			b = append(b, data[i])
		} else {
			b = append(b, 0)
		}
	}
	return string(b), api.OK
}

// expectAdd is what the chapter says of Add, told anew.
func expectAdd(l []api.Version, base []api.ID, v api.Version) ([]api.Version, api.Errno) {
	set := asSet(l)
	for _, number := range base {
		if _, there := set[number]; !there {
			return nil, api.ErrNone
		}
	}
	if _, there := set[v.ID]; there {
		return nil, api.ErrOld
	}
	for _, number := range base {
		old := set[number]
		if v.ID.Rep >= 1 && v.ID.Rep <= 8 && v.ID.Seq > old.By[v.ID.Rep-1] {
			old.By[v.ID.Rep-1] = v.ID.Seq
		}
		set[number] = old
	}
	set[v.ID] = v
	return listed(set), api.OK
}

// expectSweep is what the chapters say of Sweep, told anew: a version goes if some replica has not 0 in its By, and not more than base.
func expectSweep(l []api.Version, base api.Vec) []api.Version {
	return slices.DeleteFunc(slices.Clone(l), func(v api.Version) bool {
		for i, n := range v.By {
			if n != 0 && !(n > base[i]) {
				return true
			}
		}
		return false
	})
}

// expectUnseen is what the chapters say of Unseen, told anew.
func expectUnseen(l []api.Version, seen api.Vec) bool {
	for _, v := range expectHeads(l) {
		if v.ID.Rep < 1 || v.ID.Rep > 8 || v.ID.Seq == 0 || v.ID.Seq > seen[v.ID.Rep-1] {
			return true
		}
	}
	return false
}

// same checks what a call answers.
func same(t *testing.T, call string, got, want []api.Version) {
	t.Helper()
	if !slices.Equal(got, want) {
		t.Errorf("%s:\n%v, not\n%v", call, got, want)
	}
}

// isData checks what Data answers.
func isData(t *testing.T, l []api.Version, number api.ID, want string, wantE api.Errno) {
	t.Helper()
	if got, e := version.Data(l, number); got != want || e != wantE {
		t.Errorf("Data(%v, %v) = %q, %d, not %q, %d", l, number, got, e, want, wantE)
	}
}

// isPatch checks what Patch answers.
func isPatch(t *testing.T, data string, off int, s, want string, wantE api.Errno) {
	t.Helper()
	if got, e := version.Patch(data, off, s); got != want || e != wantE {
		t.Errorf("Patch(%q, %d, %q) = %q, %d, not %q, %d", data, off, s, got, e, want, wantE)
	}
}

// isCut checks what Cut answers.
func isCut(t *testing.T, data string, n int, want string, wantE api.Errno) {
	t.Helper()
	if got, e := version.Cut(data, n); got != want || e != wantE {
		t.Errorf("Cut(%q, %d) = %q, %d, not %q, %d", data, n, got, e, want, wantE)
	}
}

// isAdd checks what Add answers.
func isAdd(t *testing.T, l []api.Version, base []api.ID, v api.Version, want []api.Version, wantE api.Errno) {
	t.Helper()
	got, e := version.Add(l, base, v)
	if !slices.Equal(got, want) || e != wantE {
		t.Errorf("Add(%v, %v, %v) =\n%v, %d, not\n%v, %d", l, base, v, got, e, want, wantE)
	}
	if e != api.OK && got != nil {
		t.Errorf("Add(%v, %v, %v): a list of %d beside %d", l, base, v, cap(got), e)
	}
}

// added is a list with one more version, which it takes.
func added(t *testing.T, l []api.Version, v api.Version, base ...api.ID) []api.Version {
	t.Helper()
	l, e := version.Add(l, base, v)
	if e != api.OK {
		t.Fatalf("Add(%v, %v): %d", v, base, e)
	}
	return l
}

// isUnseen checks what Unseen says.
func isUnseen(t *testing.T, l []api.Version, seen api.Vec, want bool) {
	t.Helper()
	if got := version.Unseen(l, seen); got != want {
		t.Errorf("Unseen(%v, %v) = %v", l, seen, got)
	}
}

// ids are numbers that versions may have, in their order: alike in their replica or in their sequence, at both ends, and none of an event.
func ids() []api.ID {
	return []api.ID{
		id(math.MinInt, 0), id(-1, 0), {}, id(1, 0), id(9, 0),
		id(-1, 1), id(0, 1), id(1, 1), id(2, 1), id(8, 1), id(9, 1), id(math.MaxInt, 1),
		id(1, 2), id(2, 2), id(7, 2), id(1, 3), id(8, 3), id(3, 255), id(2, 256),
		id(1, 1<<20), id(8, 1<<20), id(2, 1<<31), id(1, math.MaxUint32), id(8, math.MaxUint32), id(9, math.MaxUint32),
	}
}

// vectors are some Bys: of nothing, of one replica, of some and of all, at the least and the greatest numbers.
func vectors() []api.Vec {
	const most = math.MaxUint32
	return []api.Vec{
		{}, {1}, {2}, {most}, {7: 1}, {7: most}, {0, 2}, {0, 2, 5}, {1, 2, 3, 4, 5, 6, 7, 8}, {8, 7, 6, 5, 4, 3, 2, 1},
		{1 << 20, 1 << 20, 1 << 20, 1 << 20, 1 << 20, 1 << 20, 1 << 20, 1 << 20},
		{1, 1, 1, 1, 1, 1, 1, 1}, {most, most, most, most, most, most, most, most}, {0, most, 0, 1}, {3: 1 << 31}, {3: 1<<31 - 1},
	}
}

// dice is numbers that a plain rule makes of a seed.
type dice uint32

// roll is a number below n.
func (d *dice) roll(n int) int {
	*d = *d*1664525 + 1013904223
	return int(uint32(*d)>>8) % n
}

// vector is a vector of small numbers, most of them 0.
func (d *dice) vector() api.Vec {
	var v api.Vec
	for range d.roll(4) {
		v[d.roll(8)] = uint32(d.roll(4))
	}
	return v
}

// number is a small number.
func (d *dice) number() api.ID { return id(1+d.roll(3), uint32(1+d.roll(4))) }

// bytes are up to so many bytes, some of them 0, some no UTF-8.
func (d *dice) bytes(most int) string {
	b := make([]byte, d.roll(most+1))
	for i := range b {
		b[i] = "\x00ab\xff\xc3\xa9"[d.roll(6)]
	}
	return string(b)
}

// version is a version of a small number.
func (d *dice) version() api.Version {
	return api.Version{ID: d.number(), Data: d.bytes(5), By: d.vector()}
}

// list is a list of up to so many versions, in order.
func (d *dice) list(most int) []api.Version {
	set := map[api.ID]api.Version{}
	for range d.roll(most + 1) {
		v := d.version()
		set[v.ID] = v
	}
	return listed(set)
}

// base are some numbers, most of them of versions of a list, also twice.
func (d *dice) base(l []api.Version) []api.ID {
	var some []api.ID
	for range d.roll(4) {
		if len(l) > 0 && d.roll(8) > 0 {
			some = append(some, l[d.roll(len(l))].ID)
		} else {
			some = append(some, d.number())
		}
	}
	return some
}

// orders are all orders of so many things.
func orders(n int) iter.Seq[[]int] {
	return func(yield func([]int) bool) {
		if n == 0 {
			yield(nil)
			return
		}
		for shorter := range orders(n - 1) {
			for at := range n {
				if !yield(slices.Insert(slices.Clone(shorter), at, n-1)) {
					return
				}
			}
		}
	}
}
