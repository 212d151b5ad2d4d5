package version_test

import (
	"math"
	"slices"
	"strings"
	"testing"
	"unsafe"

	"wardship/api"
	"wardship/version"
)

// P1, P2: lists by chance, each call twice, held against the chapter's words told anew; what was handed in stays as it was.
func TestListsByChance(t *testing.T) {
	for seed := range dice(20000) {
		d := seed
		l := d.list(12)
		v, number, vector, base := d.version(), d.number(), d.vector(), d.base(l)
		wasL, wasBase := slices.Clone(l), slices.Clone(base)
		data, dataE := expectData(l, number)
		more, moreE := expectAdd(l, base, v)
		for range 2 {
			same(t, "Heads", version.Heads(l), expectHeads(l))
			isData(t, l, number, data, dataE)
			isAdd(t, l, base, v, more, moreE)
			same(t, "Sweep", version.Sweep(l, vector), expectSweep(l, vector))
			isUnseen(t, l, vector, expectUnseen(l, vector))
			if version.Head(v) != expectHead(v) {
				t.Errorf("Head(%v)", v)
			}
		}
		if !slices.Equal(l, wasL) || !slices.Equal(base, wasBase) {
			t.Fatalf("%v, %v became %v, %v", wasL, wasBase, l, base)
		}
	}
}

// P1: lists that aren't in order, or have a number twice, of which nothing else is promised, end without a panic.
func TestDisorder(t *testing.T) {
	for seed := range dice(20000) {
		d := seed
		var l []api.Version
		for range d.roll(9) {
			v := d.version()
			if d.roll(3) == 0 {
				v.ID = id(d.roll(3)*math.MaxInt-1, uint32(d.roll(3)*math.MaxUint32))
			}
			l = append(l, v)
		}
		was := slices.Clone(l)
		for _, c := range calls() {
			c.call(l)
		}
		same(t, "Heads", version.Heads(l), expectHeads(l))
		vector := d.vector()
		same(t, "Sweep", version.Sweep(l, vector), expectSweep(l, vector))
		isUnseen(t, l, vector, expectUnseen(l, vector))
		more, e := version.Add(l, d.base(l), d.version())
		if e == api.OK && len(more) != len(l)+1 || e != api.OK && more != nil {
			t.Errorf("Add makes %d versions of %d, %d", len(more), len(l), e)
		}
		if data, e := version.Data(l, d.number()); e != api.OK && (e != api.ErrNone || data != "") {
			t.Errorf("Data answers %q, %d", data, e)
		}
		if !slices.Equal(l, was) {
			t.Fatalf("%v became %v", was, l)
		}
	}
}

// P1: long lists, and long bytes, end soon.
func TestLongLists(t *testing.T) {
	const n = 100000
	long, base := make([]api.Version, n), make([]api.ID, n)
	for i := range n {
		long[i] = latest(id(2, uint32(2*i+2)), "a")
		base[i] = long[i].ID
	}
	for _, i := range []int{0, 1, n / 2, n - 1, n} {
		v := latest(id(2, uint32(2*i+1)), "v")
		l, e := version.Add(long, base, v)
		if e != api.OK || len(l) != n+1 || l[i] != v || !slices.Equal(version.Heads(l), []api.Version{v}) {
			t.Errorf("Add of %v: %d", v.ID, e)
		}
		if left := version.Sweep(l, api.Vec{0, v.ID.Seq}); !slices.Equal(left, []api.Version{v}) {
			t.Errorf("Sweep leaves %d", len(left))
		}
	}
	same(t, "Heads", version.Heads(long), long)
	isUnseen(t, long, api.Vec{0, 2 * n}, false)
	isUnseen(t, long, api.Vec{0, 2*n - 1}, true)
	for _, i := range []int{0, n / 2, n - 1} {
		isData(t, long, long[i].ID, "a", api.OK)
		isData(t, long, id(1, long[i].ID.Seq), "", api.ErrNone)
	}
	big := letters(1 << 24)
	isPatch(t, big, 0, "", "", api.ErrLong)
	isPatch(t, "", 0, big, "", api.ErrLong)
	isCut(t, big, 200, big[:200], api.OK)
}

// call is a call that makes versions of versions.
type call struct {
	name string
	call func(l []api.Version) []api.Version
}

// calls are all calls of the package that do so, also where their answer is the list as it was.
func calls() []call {
	add := func(number api.ID, base ...api.ID) func(l []api.Version) []api.Version {
		return func(l []api.Version) []api.Version {
			more, _ := version.Add(l, base, latest(number, "added"))
			return more
		}
	}
	return []call{
		{"Heads", version.Heads},
		{"Add ahead", add(api.ID{})},
		{"Add between", add(id(8, 1))},
		{"Add behind", add(id(8, 9))},
		{"Add to one", add(id(8, 9), id(1, 1))},
		{"Add to some", add(id(8, 1), id(1, 1), id(2, 1), id(1, 1))},
		{"Sweep", func(l []api.Version) []api.Version { return version.Sweep(l, api.Vec{2}) }},
		{"Sweep by nothing", func(l []api.Version) []api.Version { return version.Sweep(l, api.Vec{}) }},
	}
}

// common is a list to which the calls do something.
func common() []api.Version {
	return []api.Version{latest(id(1, 1), "some"), latest(id(2, 1), "bytes"), replaced(latest(id(1, 2), "that"), api.Vec{2}), replaced(latest(id(2, 2), "were"), api.Vec{0, 4}), latest(id(1, 3), "bytes"), latest(id(4, 3), "written")}
}

// spoil changes all that a list can reach.
func spoil(l []api.Version) {
	l = l[:cap(l)]
	for i := range l {
		l[i] = replaced(latest(id(-7, l[i].ID.Seq+77), "spoilt"), api.Vec{7, 7, 7, 7})
	}
}

// Rule 4: what is answered shares nothing with what was handed in, nor with another answer; both stay as they were.
func TestListsShareNothing(t *testing.T) {
	for _, c := range calls() {
		l := common()
		first, second := c.call(l), c.call(l)
		want := slices.Clone(first)
		if len(want) == 0 {
			t.Fatalf("%s answers nothing", c.name)
		}
		same(t, c.name+": what was handed in", l, common())
		same(t, c.name+" again", second, want)
		spoil(first)
		same(t, c.name+": what was handed in, behind a change of the answer", l, common())
		same(t, c.name+": another answer, behind a change of the first", second, want)
		same(t, c.name+" once more", c.call(l), want)
		spoil(l)
		same(t, c.name+", behind a change of what was handed in", second, want)
		same(t, c.name+" of the same again", c.call(common()), want)
	}
}

// Rule 4: what lies behind the end of a list is neither read nor written; Add has room there, and doesn't take it.
func TestNothingBehindTheEnd(t *testing.T) {
	for _, c := range calls() {
		for n := range len(common()) + 1 {
			l := common()
			got := c.call(l[:n])
			same(t, c.name+": the whole array", l, common())
			same(t, c.name+" of a part", got, c.call(slices.Clone(common()[:n])))
		}
	}
	base := []api.ID{id(1, 1), id(8, 8), id(2, 1)}
	isAdd(t, common()[:1], base[:1], latest(id(2, 1), "b"), []api.Version{replaced(common()[0], api.Vec{0, 1}), latest(id(2, 1), "b")}, api.OK)
	if !slices.Equal(base, []api.ID{id(1, 1), id(8, 8), id(2, 1)}) {
		t.Errorf("base became %v", base)
	}
}

// Rule 3, rule 4: a call that fails leaves what was handed in as it was, the base too.
func TestNothingChangesBesideAnError(t *testing.T) {
	for _, c := range []struct {
		base   []api.ID
		number api.ID
		want   api.Errno
	}{
		{[]api.ID{id(1, 1), id(2, 1), id(8, 8)}, id(5, 5), api.ErrNone},
		{[]api.ID{id(4, 3), id(1, 1)}, id(2, 2), api.ErrOld},
	} {
		l, base := common(), slices.Clone(c.base)
		isAdd(t, l, base, latest(c.number, "v"), nil, c.want)
		same(t, "what was handed in", l, common())
		if !slices.Equal(base, c.base) {
			t.Errorf("base became %v", base)
		}
	}
}

// sharesMemory tells whether two texts lie in one memory.
func sharesMemory(a, b string) bool {
	if a == "" || b == "" {
		return false
	}
	from, other := uintptr(unsafe.Pointer(unsafe.StringData(a))), uintptr(unsafe.Pointer(unsafe.StringData(b)))
	return from < other+uintptr(len(b)) && other < from+uintptr(len(a))
}

// anySharesMemory tells whether a text of one list lies where one of another list does.
func anySharesMemory(a, b []string) bool {
	return slices.ContainsFunc(a, func(s string) bool {
		return slices.ContainsFunc(b, func(other string) bool { return sharesMemory(s, other) })
	})
}

// dataOf are the bytes of versions.
func dataOf(l []api.Version) []string {
	var all []string
	for _, v := range l {
		all = append(all, v.Data)
	}
	return all
}

// Rule 4: the bytes too, which nobody can change, lie in memory of their own.
func TestBytesShareNothing(t *testing.T) {
	l := common()
	for i := range l {
		l[i].Data = strings.Clone(l[i].Data)
	}
	for _, c := range calls() {
		first, second := c.call(l), c.call(l)
		if anySharesMemory(dataOf(first), dataOf(l)) || anySharesMemory(dataOf(first), dataOf(second)) {
			t.Errorf("%s: bytes share memory", c.name)
		}
	}
	for _, number := range []api.ID{id(8, 1), id(8, 9)} {
		v := latest(number, strings.Clone("added"))
		first, second := added(t, l, v), added(t, l, v)
		if anySharesMemory(dataOf(first), []string{v.Data}) || anySharesMemory(dataOf(first), dataOf(second)) {
			t.Error("Add: the bytes share memory")
		}
	}
	first, _ := version.Data(l, id(2, 1))
	second, _ := version.Data(l, id(2, 1))
	if first != "bytes" || anySharesMemory([]string{first}, dataOf(l)) || sharesMemory(first, second) {
		t.Error("Data: the bytes share memory")
	}
}

// Rule 4: bytes that are patched or cut lie in memory of their own, also where they stay what they were.
func TestChangedBytesShareNothing(t *testing.T) {
	data, s := strings.Clone("some bytes"), strings.Clone("other ones")
	for off := range len(data) + 3 {
		for n := range len(s) + 1 {
			first, _ := version.Patch(data, off, s[:n])
			second, _ := version.Patch(data, off, s[:n])
			if anySharesMemory([]string{first}, []string{data, s, second}) {
				t.Errorf("Patch(%q, %d, %q): bytes share memory", data, off, s[:n])
			}
		}
	}
	for _, s := range []string{data, s} {
		first, _ := version.Patch("", 0, s)
		if first != s || sharesMemory(first, s) {
			t.Errorf("Patch of nothing by %q: bytes share memory", s)
		}
	}
	for n := 2; n < len(data)+3; n++ {
		first, _ := version.Cut(data, n)
		second, _ := version.Cut(data, n)
		if anySharesMemory([]string{first}, []string{data, second}) {
			t.Errorf("Cut(%q, %d): bytes share memory", data, n)
		}
	}
}

// P2: what is asked in between changes no answer.
func TestNothingIsKept(t *testing.T) {
	for _, c := range calls() {
		want := c.call(common())
		for _, other := range calls() {
			other.call(common()[:3])
			other.call(numbered(ids()...))
			version.Patch("abc", 1, "longer than that")
			version.Cut("abc", 100)
			same(t, c.name+" behind "+other.name, c.call(common()), want)
			isData(t, common(), id(2, 1), "bytes", api.OK)
			isPatch(t, "abc", 5, "x", "abc\x00\x00x", api.OK)
			isCut(t, "abc", 4, "abc\x00", api.OK)
		}
	}
}
