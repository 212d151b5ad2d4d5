package volume_test

import (
	"fmt"
	"math"
	"slices"
	"testing"

	"wardship/api"
	"wardship/event"
	"wardship/state"
)

// verbs are all verbs that there are.
func verbs() []string {
	return []string{"create", "mkdir", "write", "cut", "fix", "remove", "rename", "seat", "retire"}
}

// P15.1: each verb's event in a state without anything: its number is the first one of self, and Dep is zero.
func TestFirstEvents(t *testing.T) {
	for self := 1; self <= 8; self++ {
		comesTo(t, api.State{}, self, nil, api.Op{Verb: "create", Path: "/a"}, api.Event{ID: id(self, 1), Kind: api.KindFile, Name: "a"})
		comesTo(t, api.State{}, self, nil, api.Op{Verb: "mkdir", Path: "/a"}, api.Event{ID: id(self, 1), Kind: api.KindDir, Name: "a"})
		comesTo(t, api.State{}, self, nil, api.Op{Verb: "seat", N: 4}, api.Event{ID: id(self, 1), Kind: api.KindSeat, Ward: 4})
		comesTo(t, api.State{}, self, nil, api.Op{Verb: "retire"}, api.Event{ID: id(self, 1), Kind: api.KindRetire})
	}
}

// P15.1: each verb's event where much is known: the next number of self, whatever the others' are; Dep is Known; no field but the kind's, whatever else is in the operation.
func TestEventsOfEachVerb(t *testing.T) {
	one, two := grove(t)
	for _, x := range []*site{one, two, {t: t, rep: 5, s: one.s}} {
		known := api.Vec{20, 7}
		number := id(x.rep, known[x.rep-1]+1)
		for _, c := range []struct {
			op   api.Op
			want api.Event
		}{
			{api.Op{Verb: "create", Path: "/new"}, api.Event{Kind: api.KindFile, Name: "new"}},
			{api.Op{Verb: "create", Path: "/d/e/new", To: "/d", N: 3, Data: "x"}, api.Event{Kind: api.KindFile, Dir: id(1, 2), Name: "new"}},
			{api.Op{Verb: "mkdir", Path: "/new", To: "?", N: -1, Data: "x"}, api.Event{Kind: api.KindDir, Name: "new"}},
			{api.Op{Verb: "mkdir", Path: "/lost+found/p~1.7/q/a"}, api.Event{Kind: api.KindDir, Dir: id(1, 8), Name: "a"}},
			{api.Op{Verb: "write", Path: "/z", Data: "x"}, api.Event{Kind: api.KindWrite, Obj: id(1, 4), Data: "x"}},
			{api.Op{Verb: "write", Path: "/d/e/f", To: "/z", N: 7, Data: "x"}, api.Event{Kind: api.KindWrite, Obj: id(1, 3), Base: ids(id(1, 5)), Off: 7, Data: "x"}},
			{api.Op{Verb: "cut", Path: "/d/g", N: 200, Data: "x", To: "x"}, api.Event{Kind: api.KindCut, Obj: id(1, 6), Off: 200}},
			{api.Op{Verb: "cut", Path: "/d/e/f"}, api.Event{Kind: api.KindCut, Obj: id(1, 3), Base: ids(id(1, 5))}},
			{api.Op{Verb: "fix", Path: "/c"}, api.Event{Kind: api.KindFix, Obj: id(1, 11), Base: ids(id(2, 1), id(1, 15))}},
			{api.Op{Verb: "fix", Path: "/c", Data: "both", N: 5, To: "/d"}, api.Event{Kind: api.KindFix, Obj: id(1, 11), Base: ids(id(2, 1), id(1, 15)), Data: "both"}},
			{api.Op{Verb: "remove", Path: "/z", To: "/d", N: 9, Data: "x"}, api.Event{Kind: api.KindDrop, Obj: id(1, 4), Gone: ids(id(1, 4))}},
			{api.Op{Verb: "remove", Path: "/void"}, api.Event{Kind: api.KindDrop, Obj: id(1, 14), Gone: ids(id(1, 14))}},
			{api.Op{Verb: "remove", Path: "/lost+found/l~1.9"}, api.Event{Kind: api.KindDrop, Obj: id(1, 9)}},
			{api.Op{Verb: "rename", Path: "/n~1.20", To: "/void/N", N: 2, Data: "x"}, api.Event{Kind: api.KindMove, Obj: id(1, 20), Gone: ids(id(1, 20)), Dir: id(1, 14), Name: "N"}},
			{api.Op{Verb: "rename", Path: "/d", To: "/D"}, api.Event{Kind: api.KindMove, Obj: id(1, 1), Gone: ids(id(1, 1)), Name: "D"}},
			{api.Op{Verb: "rename", Path: "/lost+found/p~1.7", To: "/p"}, api.Event{Kind: api.KindMove, Obj: id(1, 7), Gone: ids(id(1, 16)), Name: "p"}},
			{api.Op{Verb: "rename", Path: "/lost+found/h~1.12", To: "/d/h"}, api.Event{Kind: api.KindMove, Obj: id(1, 12), Dir: id(1, 1), Name: "h"}},
			{api.Op{Verb: "seat", Path: "/z", To: "/d", N: 1, Data: "x"}, api.Event{Kind: api.KindSeat, Ward: 1}},
			{api.Op{Verb: "retire", Path: "/z", To: "/d", N: 1, Data: "x"}, api.Event{Kind: api.KindRetire}},
		} {
			c.want.ID, c.want.Dep = number, known
			comesTo(t, x.s, x.rep, nil, c.op, c.want)
			e, _ := asked(t, x.s, x.rep, nil, c.op)
			if !event.Check(e) {
				t.Errorf("%+v isn't valid", e)
			}
		}
	}
}

// wrongOps are operations of all verbs, and of none, with whatever else is wrong.
func wrongOps() []api.Op {
	var l []api.Op
	for _, verb := range append(verbs(), "", "no verb") {
		for _, at := range []string{"/d", "/z", "/none", "x", "/", ""} {
			l = append(l, api.Op{Verb: verb, Path: at, To: at, N: -1}, api.Op{Verb: verb, Path: at, To: "/new", N: 1, Data: "x"})
		}
	}
	return l
}

// P15.1: first of all self must be a replica; then its number mustn't be the greatest; then it mustn't be retired; each of these ahead of whatever else is wrong.
func TestSelf(t *testing.T) {
	x, _ := grove(t)
	crowd := crowded(t, api.MaxObject)
	for _, s := range []api.State{{}, x.s, crowd} {
		for _, op := range wrongOps() {
			for _, self := range []int{0, -1, 9, 10, 256, 257, -255, math.MinInt, math.MaxInt} {
				refuses(t, api.ErrArg, s, self, []string{"/void"}, op)
			}
			full, retired := state.Clone(s), state.Clone(s)
			full.Known[2], retired.Retired[2] = api.MaxSeq, true
			refuses(t, api.ErrMax, full, 3, []string{"/void"}, op)
			refuses(t, api.ErrRetired, retired, 3, []string{"/void"}, op)
			full.Retired[2] = true
			refuses(t, api.ErrMax, full, 3, []string{"/void"}, op)
			full.Known[2] = math.MaxUint32
			refuses(t, api.ErrMax, full, 3, nil, op)
		}
	}
}

// P15.1: that others are at the greatest number, or retired, keeps nobody from anything; nor does a number one below the greatest.
func TestOthers(t *testing.T) {
	var s api.State
	s.Known = api.Vec{api.MaxSeq - 1, api.MaxSeq}
	s.Retired[2], s.Retired[7] = true, true
	comesTo(t, s, 1, nil, api.Op{Verb: "create", Path: "/a"}, api.Event{ID: id(1, api.MaxSeq), Dep: s.Known, Kind: api.KindFile, Name: "a"})
	comesTo(t, s, 4, nil, api.Op{Verb: "retire"}, api.Event{ID: id(4, 1), Dep: s.Known, Kind: api.KindRetire})
	refuses(t, api.ErrMax, s, 2, nil, api.Op{Verb: "retire"})
	refuses(t, api.ErrRetired, s, 3, nil, api.Op{Verb: "retire"})
	refuses(t, api.ErrRetired, s, 8, nil, api.Op{Verb: "retire"})
}

// P15.1: whoever retired does nothing any more, by what it did itself, while others go on.
func TestRetired(t *testing.T) {
	one, two := grove(t)
	one.asks(api.Op{Verb: "retire"})
	two.hears(one)
	for _, op := range wrongOps() {
		one.refuses(api.ErrRetired, op)
	}
	two.create("/d/new")
	two.asks(api.Op{Verb: "retire"})
	two.refuses(api.ErrRetired, api.Op{Verb: "retire"})
	two.refuses(api.ErrRetired, api.Op{Verb: "seat", N: 1})
}

// P15.1: a verb that there isn't, ahead of whatever else is wrong.
func TestVerbs(t *testing.T) {
	x, _ := grove(t)
	crowd := crowded(t, api.MaxObject)
	no := []string{"", " ", "Create", "CREATE", "create ", " create", "creat", "creates", "mkdirs", "Mkdir", "writ", "cuts", "fixed", "rm", "mv", "move", "removed", "renam", "seats", "retired", "read", "stat", "list", "touch", "créate", "create\x00", "\xff"}
	for _, verb := range no {
		for _, op := range []api.Op{{}, {Path: "/a"}, {Path: "/z", To: "/d/z", N: 1, Data: "x"}, {Path: "x", To: "x", N: -1}} {
			op.Verb = verb
			refuses(t, api.ErrArg, x.s, 1, nil, op)
			refuses(t, api.ErrArg, api.State{}, 1, nil, op)
			refuses(t, api.ErrArg, crowd, 1, []string{"/none"}, op)
		}
	}
}

// crowded is a state with so many objects: a directory /d, and files in it and in the root.
func crowded(t *testing.T, n int) api.State {
	t.Helper()
	x := &site{t: t, rep: 1}
	d := x.does(api.Event{Kind: api.KindDir, Name: "d"})
	for i := range n - 1 {
		x.does(api.Event{Kind: api.KindFile, Dir: []api.ID{root, d}[i%2], Name: fmt.Sprintf("f%d", i)})
	}
	return x.s
}

// P15.1: with MaxObject objects or more no more are created, whatever else is wrong; with one fewer one more is; all else can still be done.
func TestFull(t *testing.T) {
	for _, n := range []int{api.MaxObject, api.MaxObject + 1} {
		s := crowded(t, n)
		for _, at := range []string{"/new", "/d/new", "/f0", "/", "x", "/a~1.1", "/none/a", "/f0/a", "/lost+found/a"} {
			for _, chosen := range [][]string{nil, {"/none"}} {
				refuses(t, api.ErrFull, s, 1, chosen, api.Op{Verb: "create", Path: at})
				refuses(t, api.ErrFull, s, 2, chosen, api.Op{Verb: "mkdir", Path: at})
			}
		}
		for _, op := range []api.Op{{Verb: "write", Path: "/f0", Data: "x"}, {Verb: "cut", Path: "/f0"}, {Verb: "remove", Path: "/f0"}, {Verb: "rename", Path: "/f0", To: "/d/new"}, {Verb: "seat", N: 1}, {Verb: "retire"}} {
			if _, err := asked(t, s, 1, nil, op); err != api.OK {
				t.Errorf("%+v: %d", op, err)
			}
		}
	}
	x := &site{t: t, rep: 1, s: crowded(t, api.MaxObject-1)}
	x.refuses(api.ErrExists, api.Op{Verb: "create", Path: "/f0"})
	x.asks(api.Op{Verb: "mkdir", Path: "/d/new"})
	x.refuses(api.ErrFull, api.Op{Verb: "mkdir", Path: "/d/newer"})
	// What is removed is an object still, until it is swept.
	x.remove("/f0")
	x.refuses(api.ErrFull, api.Op{Verb: "create", Path: "/f0"})
	x.s = swept(x.s, x.s.Known)
	x.create("/f0")
	x.refuses(api.ErrFull, api.Op{Verb: "create", Path: "/newer"})
}

// P15.1: a seat from 1 to MaxWard, one after the other, and no other one.
func TestSeats(t *testing.T) {
	x := sites(t, 1)[0]
	for _, n := range []int{0, -1, 5, 6, 256, 257, math.MinInt, math.MaxInt} {
		x.refuses(api.ErrArg, api.Op{Verb: "seat", N: n})
	}
	for _, n := range []int{1, 4, 2, 3, 3} {
		x.asks(api.Op{Verb: "seat", N: n})
		if x.s.Wards != [api.MaxRep]int{n} {
			t.Errorf("%v", x.s.Wards)
		}
	}
	x.asks(api.Op{Verb: "retire"})
	if x.s.Retired != [api.MaxRep]bool{true} {
		t.Errorf("%v", x.s.Retired)
	}
}

// P15.1: what isn't about paths doesn't ask what is chosen.
func TestSeatsWhateverIsChosen(t *testing.T) {
	x, _ := grove(t)
	for _, chosen := range [][]string{{"/d"}, {"/none"}, {"x"}, slices.Repeat([]string{"/z"}, 20)} {
		comesTo(t, x.s, 1, chosen, api.Op{Verb: "seat", N: 2}, api.Event{ID: id(1, 21), Dep: x.s.Known, Kind: api.KindSeat, Ward: 2})
		comesTo(t, x.s, 1, chosen, api.Op{Verb: "retire"}, api.Event{ID: id(1, 21), Dep: x.s.Known, Kind: api.KindRetire})
	}
}
