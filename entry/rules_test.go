package entry_test

import (
	"math"
	"slices"
	"strings"
	"testing"
	"unsafe"

	"wardship/api"
	"wardship/entry"
	"wardship/path"
)

// P1, P2: lists by chance, each call twice, held against the chapter's words told anew; what was handed in stays as it was.
func TestListsByChance(t *testing.T) {
	for seed := range dice(20000) {
		d := seed
		a, b := d.list(12), d.list(12)
		wasA, wasB := slices.Clone(a), slices.Clone(b)
		x, number, by, base := d.entry(), d.number(), id(d.roll(11)-1, uint32(d.roll(5))), d.vector()
		object := id(d.roll(2), uint32(d.roll(2)))
		for range 2 {
			same(t, "Add", entry.Add(a, x), expectAdd(a, x))
			same(t, "Kill", entry.Kill(a, number, by), expectKill(a, number, by))
			same(t, "Join", entry.Join(a, b), expectJoin(a, b))
			same(t, "Of", slices.Collect(entry.Of(a, object)), expectOf(a, object))
			same(t, "In", entry.In(a, object), expectIn(a, object))
			same(t, "Sweep", entry.Sweep(a, base), expectSweep(a, base))
			isGone(t, x.By, base, expectGone(x.By, base))
			texts(t, a, expectShown(a)...)
			if entry.Alive(x) != (sum(x.By) == 0) {
				t.Errorf("Alive(%v)", x)
			}
		}
		if !slices.Equal(a, wasA) || !slices.Equal(b, wasB) {
			t.Fatalf("%v, %v became %v, %v", wasA, wasB, a, b)
		}
	}
}

// expectShown is what the chapter says of Shown, told anew.
func expectShown(l []api.Entry) []string {
	var names []string
	before := api.Entry{Name: "no name of the lists"}
	for _, x := range l {
		if x.Name == before.Name {
			names = append(names, path.Tag(x.Name, x.ID))
		} else {
			names = append(names, x.Name)
		}
		before = x
	}
	return names
}

// P1: lists that aren't in order, or have a number twice, of which nothing else is promised, end without a panic.
func TestDisorder(t *testing.T) {
	for seed := range dice(20000) {
		d := seed
		var lists [2][]api.Entry
		for i := range lists {
			for range d.roll(9) {
				x := d.entry()
				if d.roll(3) == 0 {
					x.ID = id(d.roll(3)*math.MaxInt-1, uint32(d.roll(3)*math.MaxUint32))
				}
				lists[i] = append(lists[i], x)
			}
		}
		a, b := lists[0], lists[1]
		was := slices.Clone(a)
		x := d.entry()
		for _, c := range calls() {
			c.call(a)
		}
		if n := len(entry.Add(a, x)); n < len(a) || n > len(a)+1 {
			t.Errorf("Add makes %d entries of %d", n, len(a))
		}
		if n := len(entry.Kill(a, x.ID, d.number())); n != len(a) {
			t.Errorf("Kill makes %d entries of %d", n, len(a))
		}
		if n := len(entry.Join(a, b)); n > len(a)+len(b) {
			t.Errorf("Join makes %d entries of %d and %d", n, len(a), len(b))
		}
		texts(t, a, expectShown(a)...)
		if !slices.Equal(a, was) {
			t.Fatalf("%v became %v", was, a)
		}
	}
}

// P1: long lists end soon.
func TestLongLists(t *testing.T) {
	const n = 100000
	long, other := make([]api.Entry, n), make([]api.Entry, n)
	for i := range n {
		long[i] = named(id(2, uint32(2*i+2)), "a")
		other[i] = named(id(2, uint32(2*i+3)), "a")
	}
	for _, i := range []int{0, 1, n / 2, n - 2, n - 1} {
		if l := entry.Add(long, other[i]); len(l) != n+1 || l[i] != long[i] || l[i+1] != other[i] || l[n] != slices.MaxFunc(l, byNumber) {
			t.Errorf("Add of %v", other[i])
		}
		if l := entry.Kill(long, long[i].ID, id(1, 1)); len(l) != n || l[i] != gone(long[i], api.Vec{1}) {
			t.Errorf("Kill of %v", long[i])
		}
	}
	joined := entry.Join(long, other)
	if len(joined) != 2*n || !slices.IsSortedFunc(joined, byNumber) {
		t.Errorf("Join makes %d entries", len(joined))
	}
	same(t, "In", entry.In(long, id(6, 3)), long)
	same(t, "Of", slices.Collect(entry.Of(long, id(5, 9))), long)
	if names := entry.Shown(joined); names[0] != "a" || names[2*n-1] != "a~2.200001" {
		t.Errorf("%q", names[2*n-1])
	}
}

// call is a call that makes entries of entries.
type call struct {
	name string
	call func(l []api.Entry) []api.Entry
}

// calls are all calls of the package that do so, also where their answer is the list as it was.
func calls() []call {
	none := []api.Entry{}
	other := []api.Entry{gone(named(id(2, 1), "o"), api.Vec{1}), named(id(1, 9), "o")}
	return []call{
		{"Add ahead", func(l []api.Entry) []api.Entry { return entry.Add(l, named(api.ID{}, "x")) }},
		{"Add between", func(l []api.Entry) []api.Entry { return entry.Add(l, named(id(8, 1), "x")) }},
		{"Add behind", func(l []api.Entry) []api.Entry { return entry.Add(l, named(id(8, 9), "x")) }},
		{"Add of what is there", func(l []api.Entry) []api.Entry { return entry.Add(l, named(id(2, 1), "x")) }},
		{"Kill", func(l []api.Entry) []api.Entry { return entry.Kill(l, id(2, 1), id(3, 4)) }},
		{"Kill of what isn't there", func(l []api.Entry) []api.Entry { return entry.Kill(l, id(8, 8), id(3, 4)) }},
		{"Kill by nothing", func(l []api.Entry) []api.Entry { return entry.Kill(l, id(2, 1), api.ID{}) }},
		{"Join", func(l []api.Entry) []api.Entry { return entry.Join(l, other) }},
		{"Join the other way round", func(l []api.Entry) []api.Entry { return entry.Join(other, l) }},
		{"Join with none", func(l []api.Entry) []api.Entry { return entry.Join(l, nil) }},
		{"Join of none", func(l []api.Entry) []api.Entry { return entry.Join(none, l) }},
		{"Join with itself", func(l []api.Entry) []api.Entry { return entry.Join(l, l) }},
		{"Of", func(l []api.Entry) []api.Entry { return slices.Collect(entry.Of(l, id(5, 9))) }},
		{"In", func(l []api.Entry) []api.Entry { return entry.In(l, id(6, 3)) }},
		{"Sweep", func(l []api.Entry) []api.Entry { return entry.Sweep(l, api.Vec{2}) }},
		{"Sweep by nothing", func(l []api.Entry) []api.Entry { return entry.Sweep(l, api.Vec{}) }},
	}
}

// common is a list to which the calls do something.
func common() []api.Entry {
	return []api.Entry{named(id(1, 1), "some"), named(id(2, 1), "name"), gone(named(id(1, 2), "that"), api.Vec{2}), gone(named(id(2, 2), "is"), api.Vec{0, 4}), named(id(1, 3), "name"), named(id(4, 3), "long")}
}

// spoil changes all that a list can reach.
func spoil(l []api.Entry) {
	l = l[:cap(l)]
	for i := range l {
		l[i] = gone(named(id(-7, l[i].ID.Seq+77), "spoilt"), api.Vec{7, 7, 7, 7})
	}
}

// Rule 4: what is answered shares nothing with what was handed in, nor with another answer; both stay as they were.
func TestListsShareNothing(t *testing.T) {
	for _, c := range calls() {
		l := common()
		first, second := c.call(l), c.call(l)
		want := slices.Clone(first)
		if len(want) == 0 {
			t.Fatalf("%s answers nothing", c.name)
		}
		same(t, c.name+": what was handed in", l, common())
		same(t, c.name+" again", second, want)
		spoil(first)
		same(t, c.name+": what was handed in, behind a change of the answer", l, common())
		same(t, c.name+": another answer, behind a change of the first", second, want)
		same(t, c.name+" once more", c.call(l), want)
		spoil(l)
		same(t, c.name+", behind a change of what was handed in", second, want)
		same(t, c.name+" of the same again", c.call(common()), want)
	}
}

// Rule 4: what lies behind the end of a list is neither read nor written.
func TestNothingBehindTheEnd(t *testing.T) {
	for _, c := range calls() {
		for n := range len(common()) + 1 {
			l := common()
			got := c.call(l[:n])
			same(t, c.name+": the whole array", l, common())
			same(t, c.name+" of a part", got, c.call(slices.Clone(common()[:n])))
		}
	}
	l := common()
	texts(t, l[:1], "some")
	same(t, "the whole array", l, common())
}

// Rule 4, rule 7: what Of goes over is what the list was at the call, each time.
func TestOfKeepsNothingOfTheList(t *testing.T) {
	l := common()
	want := expectOf(l, id(5, 9))
	seq, other := entry.Of(l, id(5, 9)), entry.Of(l, id(5, 9))
	got := slices.Collect(seq)
	spoil(l)
	same(t, "Of, behind a change of the list", slices.Collect(seq), want)
	same(t, "Of, for the first time behind it", slices.Collect(other), want)
	spoil(got)
	same(t, "Of, behind a change of what it told", slices.Collect(seq), want)
	at := 0
	for x := range seq {
		if x != want[at] {
			t.Errorf("%v, not %v", x, want[at])
		}
		spoil(l)
		at++
	}
}

// sharesMemory tells whether two texts lie in one memory.
func sharesMemory(a, b string) bool {
	if a == "" || b == "" {
		return false
	}
	from, other := uintptr(unsafe.Pointer(unsafe.StringData(a))), uintptr(unsafe.Pointer(unsafe.StringData(b)))
	return from < other+uintptr(len(b)) && other < from+uintptr(len(a))
}

// anySharesMemory tells whether a text of one list lies where one of another list does.
func anySharesMemory(a, b []string) bool {
	return slices.ContainsFunc(a, func(s string) bool {
		return slices.ContainsFunc(b, func(other string) bool { return sharesMemory(s, other) })
	})
}

// namesOf are the names of entries.
func namesOf(l []api.Entry) []string {
	var names []string
	for _, x := range l {
		names = append(names, x.Name)
	}
	return names
}

// Rule 4: the names too, which nobody can change, lie in memory of their own.
func TestNamesShareNothing(t *testing.T) {
	l := common()
	for i := range l {
		l[i].Name = strings.Clone(l[i].Name)
	}
	for _, c := range calls() {
		first, second := c.call(l), c.call(l)
		if anySharesMemory(namesOf(first), namesOf(l)) || anySharesMemory(namesOf(first), namesOf(second)) {
			t.Errorf("%s: names share memory", c.name)
		}
	}
	first, second := entry.Shown(l), entry.Shown(l)
	if anySharesMemory(first, namesOf(l)) || anySharesMemory(first, second) {
		t.Error("Shown: names share memory")
	}
	x := named(id(8, 1), strings.Clone("added"))
	if anySharesMemory(namesOf(entry.Add(l, x)), []string{x.Name}) {
		t.Error("Add: the name shares memory")
	}
	seq := entry.Of(l, id(5, 9))
	if anySharesMemory(namesOf(slices.Collect(seq)), namesOf(slices.Collect(seq))) {
		t.Error("Of: names share memory")
	}
}

// Rule 4: what Shown answers may be changed, and changes nothing.
func TestShownSharesNothing(t *testing.T) {
	l := common()
	first, second := entry.Shown(l), entry.Shown(l)
	want := slices.Clone(second)
	first = first[:cap(first)]
	for i := range first {
		first[i] += "x"
	}
	if !slices.Equal(second, want) {
		t.Errorf("%q became %q", want, second)
	}
	same(t, "what was handed in", l, common())
	texts(t, l, want...)
}

// P2: what is asked in between changes no answer.
func TestNothingIsKept(t *testing.T) {
	for _, c := range calls() {
		want := c.call(common())
		for _, other := range calls() {
			other.call(common()[:3])
			other.call(places())
			same(t, c.name+" behind "+other.name, c.call(common()), want)
		}
	}
}
