package state_test

import (
	"math"
	"slices"
	"testing"

	"wardship/api"
	"wardship/state"
)

// isObject checks what Object answers.
func isObject(t *testing.T, s api.State, number api.ID, want *api.Object) {
	t.Helper()
	got, there := state.Object(s, number)
	if there != (want != nil) {
		t.Fatalf("Object(%v): %v", number, there)
	}
	if want == nil {
		want = &api.Object{}
	}
	isState(t, "Object", api.State{Objects: []api.Object{got}}, api.State{Objects: []api.Object{*want}})
	if !there && got.Versions != nil {
		t.Fatalf("Object(%v): versions of nothing", number)
	}
}

// P12.1: an object by its number, a directory and files, the first, one between and the last.
func TestObject(t *testing.T) {
	s := told()
	for i := range s.Objects {
		isObject(t, s, s.Objects[i].ID, &told().Objects[i])
	}
	isState(t, "what was handed in", s, told())
}

// P12.1: there is no object by numbers that are alike in one part alone, by those of other events, by the root's, by those that no event has.
func TestNoObject(t *testing.T) {
	for _, number := range ids(
		api.ID{}, id(1, 0), id(0, 1), id(2, 0), id(3, 1), id(4, 1), id(8, 1), id(9, 1), id(-1, 1), id(2, 2), id(3, 2), id(0, 2),
		id(1, 3), id(1, 4), id(2, 3), id(1, 1<<20), id(1, math.MaxUint32), id(math.MaxInt, 1), id(math.MinInt, 2), id(math.MaxInt, math.MaxUint32),
	) {
		isObject(t, told(), number, nil)
		isObject(t, api.State{}, number, nil)
		isObject(t, api.State{Known: api.Vec{5, 5, 5}, Entries: told().Entries}, number, nil)
	}
	for _, number := range objects(told()) {
		isObject(t, api.State{}, number, nil)
	}
}

// P12.1: of many objects each is found by its number, and none by the numbers between.
func TestObjectOfMany(t *testing.T) {
	var s api.State
	for seq := uint32(1); seq <= 60; seq++ {
		for rep := 2; rep <= 8; rep += 2 {
			s.Objects = append(s.Objects, api.Object{ID: id(rep, seq*3), Name: "a"})
		}
	}
	for _, n := range []int{0, 1, 2, 3, 4, 119, 120, 239, 240} {
		part := api.State{Objects: s.Objects[:n]}
		for seq := uint32(0); seq <= 183; seq++ {
			for rep := range 10 {
				isObject(t, part, id(rep, seq), objectOf(part, id(rep, seq)))
			}
		}
	}
}

// P12.1: a clone is equal, of whatever state; also of one whose lists are empty, or long.
func TestClone(t *testing.T) {
	empty := api.State{Objects: []api.Object{}, Entries: []api.Entry{}}
	none := api.State{Objects: []api.Object{{Versions: []api.Version{}}}}
	for _, s := range []api.State{{}, empty, none, told(), large()} {
		was := copyOf(s)
		got := state.Clone(s)
		isState(t, "a clone", got, was)
		isState(t, "what was cloned", s, was)
		isSame(t, got, s, true)
	}
	for _, c := range changes() {
		isState(t, "a clone behind a change of "+c.name, state.Clone(changed(t, c)), changed(t, c))
	}
}

// P12.1: each change of a clone leaves the state as it was, and the other way round.
func TestChangesOfClones(t *testing.T) {
	for _, c := range changes() {
		s := told()
		clone, other := state.Clone(s), state.Clone(s)
		c.do(&clone)
		isState(t, "the state, behind a change of its clone's "+c.name, s, told())
		isState(t, "another clone, behind a change of "+c.name, other, told())
		c.do(&s)
		isState(t, "a clone, behind a change of the state's "+c.name, other, told())
		isState(t, "a changed clone, behind a change of "+c.name, clone, changed(t, c))
	}
	s := told()
	clone := state.Clone(s)
	spoil(&clone)
	isState(t, "the state, behind changes of all", s, told())
	clone = state.Clone(s)
	spoil(&s)
	isState(t, "a clone, behind changes of all", clone, told())
}

// spoil changes all that a state's lists can reach.
func spoil(s *api.State) {
	s.Objects, s.Entries = s.Objects[:cap(s.Objects)], s.Entries[:cap(s.Entries)]
	for i := range s.Objects {
		o := &s.Objects[i]
		spoilVersions(o.Versions)
		o.ID, o.Last, o.Name, o.Dir, o.Seen = id(-7, o.ID.Seq+7), id(7, 7), "spoilt", !o.Dir, api.Vec{7, 7, 7}
	}
	for i := range s.Entries {
		s.Entries[i] = api.Entry{ID: id(-7, 7), Dir: id(7, 7), Name: "spoilt", Obj: id(7, 7), By: api.Vec{7, 7, 7}}
	}
}

// spoilVersions changes all versions that a list can reach.
func spoilVersions(l []api.Version) {
	l = l[:cap(l)]
	for i := range l {
		l[i] = api.Version{ID: id(-7, 7), Data: "spoilt", By: api.Vec{7, 7, 7}}
	}
}

// large is a state with lists that have room behind their ends.
func large() api.State {
	s := api.State{Known: api.Vec{300, 300}, Objects: make([]api.Object, 0, 1000), Entries: make([]api.Entry, 0, 1000)}
	for seq := uint32(1); seq <= 300; seq++ {
		o := api.Object{ID: id(1, seq), Name: "a", Last: id(1, seq), Versions: make([]api.Version, 0, 9)}
		for rep := 2; rep <= 2+int(seq%5); rep++ {
			o.Versions = append(o.Versions, api.Version{ID: id(rep, seq), Data: "bytes"})
		}
		s.Objects = append(s.Objects, o)
		s.Entries = append(s.Entries, api.Entry{ID: id(1, seq), Name: "a", Obj: id(1, seq)})
	}
	return s
}

// isSame checks both ways what Same says.
func isSame(t *testing.T, a, b api.State, want bool) {
	t.Helper()
	if state.Same(a, b) != want || state.Same(b, a) != want {
		t.Fatalf("Same isn't %v both ways:\n%+v\n%+v", want, a, b)
	}
}

// P12.1: states are the same if each field is, whichever one it is that differs.
func TestSame(t *testing.T) {
	isSame(t, told(), told(), true)
	isSame(t, large(), large(), true)
	isSame(t, told(), large(), false)
	all := changes()
	for i, c := range all {
		s := changed(t, c)
		isSame(t, s, changed(t, c), true)
		isSame(t, s, told(), false)
		isSame(t, s, api.State{}, false)
		for k, other := range all {
			if i != k {
				isSame(t, s, changed(t, other), same(s, changed(t, other)))
			}
		}
	}
}

// P12.1: nil and empty lists are equal; a list of zeros is neither.
func TestSameOfEmptyLists(t *testing.T) {
	states := []api.State{{}, {Objects: []api.Object{}}, {Entries: make([]api.Entry, 0, 4)}, {Objects: told().Objects[:0], Entries: told().Entries[:0]}}
	for _, a := range states {
		for _, b := range states {
			isSame(t, a, b, true)
		}
		isSame(t, a, api.State{Objects: []api.Object{{}}}, false)
		isSame(t, a, api.State{Entries: []api.Entry{{}}}, false)
	}
	a, b := api.State{Objects: []api.Object{{}}}, api.State{Objects: []api.Object{{Versions: []api.Version{}}}}
	isSame(t, a, b, true)
	b.Objects[0].Versions = []api.Version{{}}
	isSame(t, a, b, false)
}

// P12.1: lists of which one is the beginning of the other one, or has the same in another order, are unlike.
func TestSameOfParts(t *testing.T) {
	s := told()
	for n := range s.Objects {
		part := told()
		part.Objects = part.Objects[:n]
		isSame(t, s, part, false)
	}
	for n := range s.Entries {
		part := told()
		part.Entries = part.Entries[:n]
		isSame(t, s, part, false)
	}
	for _, turn := range []func(*api.State){
		func(s *api.State) { slices.Reverse(s.Objects) },
		func(s *api.State) { slices.Reverse(s.Entries) },
		func(s *api.State) { slices.Reverse(s.Objects[2].Versions) },
	} {
		turned := told()
		turn(&turned)
		isSame(t, s, turned, false)
	}
}
