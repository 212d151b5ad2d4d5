package entry_test

import (
	"math"
	"slices"
	"testing"

	"wardship/api"
	"wardship/entry"
)

// P10.1: an entry is alive if nothing let it go, whatever else it says.
func TestAlive(t *testing.T) {
	for _, x := range []api.Entry{{}, named(id(1, 1), "a"), named(id(9, 0), ""), {Name: "a"}} {
		if !entry.Alive(x) {
			t.Errorf("%v isn't alive", x)
		}
		for i := range 8 {
			for _, n := range []uint32{1, 2, 1 << 20, 1 << 31, math.MaxUint32} {
				var by api.Vec
				by[i] = n
				if entry.Alive(gone(x, by)) {
					t.Errorf("%v is alive", gone(x, by))
				}
			}
		}
		for _, by := range vectors()[1:] {
			if entry.Alive(gone(x, by)) {
				t.Errorf("%v is alive", gone(x, by))
			}
		}
	}
}

// P10.1: an entry is added to none, before all, behind all and between two.
func TestKnownAdds(t *testing.T) {
	for _, c := range []struct {
		l    []api.Entry
		x    api.ID
		want []api.Entry
	}{
		{nil, id(1, 1), numbered(id(1, 1))},
		{[]api.Entry{}, id(8, 7), numbered(id(8, 7))},
		{nil, api.ID{}, numbered(api.ID{})},
		{numbered(id(2, 2), id(2, 4)), id(2, 1), numbered(id(2, 1), id(2, 2), id(2, 4))},
		{numbered(id(2, 2), id(2, 4)), id(2, 5), numbered(id(2, 2), id(2, 4), id(2, 5))},
		{numbered(id(2, 2), id(2, 4)), id(2, 3), numbered(id(2, 2), id(2, 3), id(2, 4))},
		{numbered(id(2, 3), id(6, 3)), id(1, 3), numbered(id(1, 3), id(2, 3), id(6, 3))},
		{numbered(id(2, 3), id(6, 3)), id(8, 3), numbered(id(2, 3), id(6, 3), id(8, 3))},
		{numbered(id(2, 3), id(6, 3)), id(4, 3), numbered(id(2, 3), id(4, 3), id(6, 3))},
		{numbered(id(2, 3)), id(8, 1), numbered(id(8, 1), id(2, 3))},
		{numbered(id(2, 3)), id(1, 4), numbered(id(2, 3), id(1, 4))},
		{numbered(id(2, 10)), id(3, 9), numbered(id(3, 9), id(2, 10))},
		{numbered(id(1, 1)), api.ID{}, numbered(api.ID{}, id(1, 1))},
		{numbered(id(1, math.MaxUint32-1)), id(1, math.MaxUint32), numbered(id(1, math.MaxUint32-1), id(1, math.MaxUint32))},
	} {
		same(t, "Add", entry.Add(c.l, named(c.x, "a")), c.want)
	}
}

// P10.1: an entry comes into the list as it is, also one that went already, and all others stay what they are.
func TestAddChangesNoEntry(t *testing.T) {
	x := api.Entry{ID: id(2, 2), Dir: id(7, 1), Name: "x.y", Obj: id(3, 8), By: api.Vec{1, 0, 9}}
	l := []api.Entry{gone(named(id(1, 2), "a"), api.Vec{4}), named(id(3, 2), "x.y")}
	same(t, "Add", entry.Add(l, x), []api.Entry{l[0], x, l[1]})
	for _, by := range vectors() {
		same(t, "Add to none", entry.Add(nil, gone(x, by)), []api.Entry{gone(x, by)})
	}
	for _, name := range []string{"", ".", "a/b", "\xff\x00", "日本", "abcdefghijklmnop"} {
		same(t, "Add of no name", entry.Add(l[:1], named(id(2, 9), name)), []api.Entry{l[0], named(id(2, 9), name)})
	}
}

// P10.1: an entry whose number the list has already changes nothing, whatever else it says.
func TestAddOfWhatIsThere(t *testing.T) {
	l := []api.Entry{named(id(1, 1), "a"), gone(named(id(2, 1), "b"), api.Vec{0, 3}), named(id(1, 2), "c")}
	for i := range l {
		for _, change := range []func(x *api.Entry){
			func(*api.Entry) {},
			func(x *api.Entry) { x.Name = "other" },
			func(x *api.Entry) { x.Name = "" },
			func(x *api.Entry) { x.Dir = id(8, 8) },
			func(x *api.Entry) { x.Dir = api.ID{} },
			func(x *api.Entry) { x.Obj = id(8, 8) },
			func(x *api.Entry) { x.Obj = api.ID{} },
			func(x *api.Entry) { x.By = api.Vec{} },
			func(x *api.Entry) { x.By = api.Vec{0, 2} },
			func(x *api.Entry) { x.By = api.Vec{9, 9, 9} },
			func(x *api.Entry) { *x = api.Entry{ID: x.ID} },
		} {
			x := l[i]
			change(&x)
			same(t, "Add of what is there", entry.Add(l, x), l)
			same(t, "Add of what is alone there", entry.Add(l[i:i+1], x), l[i:i+1])
		}
	}
}

// P10.1: each number in each place, held against the chapter's words told anew; the same number again changes nothing.
func TestAddOfEachNumber(t *testing.T) {
	all := ids()
	for from := range all {
		for to := from; to <= len(all); to++ {
			l := numbered(all[from:to]...)
			for i, n := range all {
				got := entry.Add(l, named(n, "x"))
				same(t, "Add", got, expectAdd(l, named(n, "x")))
				if i >= from && i < to != slices.Equal(got, l) {
					t.Errorf("Add of %v changes the list", n)
				}
			}
		}
	}
	whole := numbered(all...)
	for i, n := range all {
		same(t, "Add of one that is missing", entry.Add(slices.Delete(slices.Clone(whole), i, i+1), named(n, "a")), whole)
	}
}

// P10.1: an entry goes by an event, and by more of them, of one replica and of several.
func TestKnownKills(t *testing.T) {
	l := []api.Entry{named(id(1, 1), "a"), gone(named(id(2, 1), "b"), api.Vec{5, 0, 7}), named(id(1, 2), "c")}
	for _, c := range []struct {
		at   int
		by   []api.ID
		want api.Vec
	}{
		{0, []api.ID{id(2, 2)}, api.Vec{0, 2}},
		{0, []api.ID{id(1, 1)}, api.Vec{1}},
		{2, []api.ID{id(8, 1<<20)}, api.Vec{7: 1 << 20}},
		{2, []api.ID{id(8, math.MaxUint32)}, api.Vec{7: math.MaxUint32}},
		{0, []api.ID{id(2, 2), id(2, 2)}, api.Vec{0, 2}},
		{0, []api.ID{id(2, 2), id(2, 3)}, api.Vec{0, 3}},
		{0, []api.ID{id(2, 3), id(2, 2)}, api.Vec{0, 3}},
		{0, []api.ID{id(2, 2), id(8, 1), id(1, 4), id(2, 2)}, api.Vec{4, 2, 0, 0, 0, 0, 0, 1}},
		{1, []api.ID{id(2, 2)}, api.Vec{5, 2, 7}},
		{1, []api.ID{id(1, 4)}, api.Vec{5, 0, 7}},
		{1, []api.ID{id(1, 5)}, api.Vec{5, 0, 7}},
		{1, []api.ID{id(1, 6), id(3, 8)}, api.Vec{6, 0, 8}},
		{1, []api.ID{id(3, math.MaxUint32), id(3, 1)}, api.Vec{5, 0, math.MaxUint32}},
	} {
		got, want := l, slices.Clone(l)
		for _, by := range c.by {
			got = entry.Kill(got, l[c.at].ID, by)
		}
		want[c.at].By = c.want
		same(t, "Kill", got, want)
	}
}

// P10.1: a number that no entry has lets nothing go, however near it is.
func TestKillOfWhatIsNotThere(t *testing.T) {
	l := []api.Entry{named(id(2, 2), "a"), gone(named(id(4, 2), "b"), api.Vec{5}), named(id(2, 4), "c")}
	for _, n := range []api.ID{{}, id(2, 0), id(0, 2), id(2, 1), id(1, 2), id(3, 2), id(5, 2), id(2, 3), id(4, 3), id(4, 4), id(1, 4), id(3, 4), id(2, 5), id(8, 1<<20), id(-2, 2), id(2, math.MaxUint32), id(math.MaxInt, 2), id(math.MinInt, 4), id(2+1<<32, 2)} {
		for _, by := range []api.ID{{}, id(1, 1), id(8, 9), n} {
			same(t, "Kill of what isn't there", entry.Kill(l, n, by), l)
			for _, none := range [][]api.Entry{nil, {}} {
				if got := entry.Kill(none, n, by); len(got) != 0 {
					t.Errorf("Kill of none: %v", got)
				}
			}
		}
	}
}

// P10.1: an event of no replica, or without a position, lets nothing go.
func TestKillByNothing(t *testing.T) {
	l := []api.Entry{named(id(2, 2), "a"), gone(named(id(4, 2), "b"), api.Vec{5, 6, 7, 8, 9, 1, 2, 3})}
	for _, by := range []api.ID{{}, id(0, 1), id(9, 1), id(-1, 1), id(-8, math.MaxUint32), id(256, 3), id(257, 3), id(1<<16+1, 3), id(1<<32+1, 3), id(math.MaxInt, 1), id(math.MinInt, 1), id(math.MinInt+1, 9), id(1, 0), id(8, 0), id(5, 0)} {
		for _, x := range l {
			same(t, "Kill by nothing", entry.Kill(l, x.ID, by), l)
		}
	}
}

// P10.1: each number and each event, held against the chapter's words told anew.
func TestKillOfEachNumber(t *testing.T) {
	all := ids()
	events := slices.Concat(all, []api.ID{id(4, 2), id(5, 9)})
	for _, by := range vectors() {
		l := numbered(all...)
		for i := range l {
			l[i].By = by
		}
		for _, n := range append(ids(), id(3, 3)) {
			for _, e := range events {
				same(t, "Kill", entry.Kill(l, n, e), expectKill(l, n, e))
			}
		}
	}
}

// P10.1: what both have is joined, what one has comes in its place.
func TestKnownJoins(t *testing.T) {
	a := []api.Entry{named(id(1, 1), "a"), gone(named(id(2, 1), "b"), api.Vec{3, 1}), named(id(1, 3), "d")}
	b := []api.Entry{gone(named(id(2, 1), "b"), api.Vec{2, 2, 9}), named(id(8, 2), "c"), gone(named(id(1, 3), "d"), api.Vec{7: 1}), named(id(2, 3), "e")}
	want := []api.Entry{a[0], gone(a[1], api.Vec{3, 2, 9}), b[1], gone(a[2], api.Vec{7: 1}), b[3]}
	same(t, "Join", entry.Join(a, b), want)
	same(t, "Join the other way round", entry.Join(b, a), want)
	same(t, "Join again", entry.Join(entry.Join(a, b), b), want)
	same(t, "Join of all with one", entry.Join(want, a), want)
	for _, l := range [][]api.Entry{nil, {}, a, b, want, a[:1], b[2:]} {
		same(t, "Join of a list with itself", entry.Join(l, l), l)
		for _, none := range [][]api.Entry{nil, {}} {
			same(t, "Join with none", entry.Join(l, none), l)
			same(t, "Join of none", entry.Join(none, l), l)
		}
	}
}

// P10.1: lists that have no number in common, one ahead of the other, one within the other, and by turns.
func TestJoinOfStrangers(t *testing.T) {
	one, two, three, four := id(7, 1), id(8, 1), id(1, 2), id(2, 2)
	all := numbered(one, two, three, four)
	for _, c := range [][2][]api.ID{
		{{one, two}, {three, four}}, {{one, four}, {two, three}}, {{one, three}, {two, four}}, {{one}, {two, three, four}}, {{two}, {one, three, four}}, {{four}, {one, two, three}}, {{}, {one, two, three, four}},
	} {
		a, b := numbered(c[0]...), numbered(c[1]...)
		same(t, "Join", entry.Join(a, b), all)
		same(t, "Join the other way round", entry.Join(b, a), all)
	}
}

// P10.1: of an entry that both have, it is the first one's name, directory and object that stay.
func TestJoinTakesTheFirst(t *testing.T) {
	x := api.Entry{ID: id(2, 2), Dir: id(7, 1), Name: "x", Obj: id(3, 8), By: api.Vec{1}}
	y := api.Entry{ID: id(2, 2), Dir: id(7, 2), Name: "y", Obj: id(4, 8), By: api.Vec{0, 1}}
	empty := api.Entry{ID: id(2, 2)}
	both := api.Vec{1, 1}
	ahead, behind := named(id(1, 2), "p"), named(id(3, 2), "q")
	same(t, "Join", entry.Join([]api.Entry{x}, []api.Entry{y}), []api.Entry{gone(x, both)})
	same(t, "Join", entry.Join([]api.Entry{y}, []api.Entry{x}), []api.Entry{gone(y, both)})
	same(t, "Join", entry.Join([]api.Entry{ahead, x}, []api.Entry{y, behind}), []api.Entry{ahead, gone(x, both), behind})
	same(t, "Join", entry.Join([]api.Entry{y, behind}, []api.Entry{ahead, x}), []api.Entry{ahead, gone(y, both), behind})
	same(t, "Join", entry.Join([]api.Entry{empty}, []api.Entry{x}), []api.Entry{gone(empty, x.By)})
	same(t, "Join", entry.Join([]api.Entry{x}, []api.Entry{empty}), []api.Entry{x})
}

// P10.1: each pair of Bys, held against the chapter's words told anew.
func TestJoinOfEachPairOfBys(t *testing.T) {
	for _, p := range vectors() {
		for _, q := range vectors() {
			a := []api.Entry{gone(named(id(1, 1), "a"), p), gone(named(id(2, 1), "b"), p), named(id(1, 2), "c")}
			b := []api.Entry{gone(named(id(2, 1), "b"), q), gone(named(id(1, 2), "c"), q), gone(named(id(2, 2), "d"), q)}
			same(t, "Join", entry.Join(a, b), expectJoin(a, b))
		}
	}
}

// P10.1: each pair of sets of some numbers, held against the chapter's words told anew.
func TestJoinOfEachPairOfSets(t *testing.T) {
	numbers := []api.ID{{}, id(1, 1), id(2, 1), id(9, 1), id(1, 2), id(8, math.MaxUint32)}
	sets := func(name string, by api.Vec) [][]api.Entry {
		var all [][]api.Entry
		for which := range 1 << len(numbers) {
			var l []api.Entry
			for i, n := range numbers {
				if which>>i&1 == 1 {
					l = append(l, gone(named(n, name), by))
				}
			}
			all = append(all, l)
		}
		return all
	}
	for _, a := range sets("a", api.Vec{1, 5}) {
		for _, b := range sets("b", api.Vec{2, 4, 1}) {
			same(t, "Join", entry.Join(a, b), expectJoin(a, b))
		}
	}
}
