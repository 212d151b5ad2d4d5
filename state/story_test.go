package state_test

import (
	"slices"
	"testing"

	"wardship/api"
)

// story is a row of events of each kind, some of which know nothing of each other, in an order in which they can be applied.
func story() []api.Event {
	d, f := id(1, 1), id(1, 2)
	return []api.Event{
		{ID: d, Kind: api.KindDir, Name: "d"},
		{ID: f, Dep: api.Vec{1}, Kind: api.KindFile, Name: "f"},
		{ID: id(1, 3), Dep: api.Vec{2}, Kind: api.KindWrite, Obj: f, Data: "one"},
		{ID: id(2, 1), Dep: api.Vec{3}, Kind: api.KindFile, Dir: d, Name: "g"},
		{ID: id(2, 2), Dep: api.Vec{3, 1}, Kind: api.KindWrite, Obj: f, Base: ids(id(1, 3)), Off: 4, Data: "!"},
		{ID: id(1, 4), Dep: api.Vec{3}, Kind: api.KindCut, Obj: f, Base: ids(id(1, 3)), Off: 2},
		{ID: id(3, 1), Dep: api.Vec{4, 2}, Kind: api.KindFix, Obj: f, Base: ids(id(2, 2), id(1, 4)), Data: "both"},
		{ID: id(1, 5), Dep: api.Vec{4}, Kind: api.KindMove, Obj: f, Gone: ids(f), Dir: d, Name: "x"},
		{ID: id(2, 3), Dep: api.Vec{3, 2}, Kind: api.KindMove, Obj: f, Gone: ids(f), Name: "y"},
		{ID: id(3, 2), Dep: api.Vec{5, 3, 1}, Kind: api.KindDrop, Obj: f, Gone: ids(id(2, 3))},
		{ID: id(4, 1), Dep: api.Vec{1}, Kind: api.KindSeat, Ward: 2},
		{ID: id(4, 2), Dep: api.Vec{1, 0, 0, 1}, Kind: api.KindSeat, Ward: 3},
		{ID: id(8, 1), Kind: api.KindRetire},
	}
}

// told is what the story comes to, as the chapter's words say, worked out by hand.
func told() api.State {
	d, f := id(1, 1), id(1, 2)
	return api.State{
		Known: api.Vec{5, 3, 2, 2, 0, 0, 0, 1},
		Objects: []api.Object{
			{ID: d, Dir: true, Last: d, Name: "d"},
			{ID: id(2, 1), Last: id(2, 1), Name: "g"},
			{ID: f, Last: id(1, 5), Name: "x", Seen: api.Vec{5, 3, 2}, Versions: []api.Version{
				{ID: id(3, 1), Data: "both"},
				{ID: id(2, 2), Data: "one\x00!", By: api.Vec{0, 0, 1}},
				{ID: id(1, 3), Data: "one", By: api.Vec{4, 2}},
				{ID: id(1, 4), Data: "on", By: api.Vec{0, 0, 1}},
			}},
		},
		Entries: []api.Entry{
			{ID: d, Name: "d", Obj: d},
			{ID: id(2, 1), Dir: d, Name: "g", Obj: id(2, 1)},
			{ID: f, Name: "f", Obj: f, By: api.Vec{5, 3}},
			{ID: id(2, 3), Name: "y", Obj: f, By: api.Vec{0, 0, 2}},
			{ID: id(1, 5), Dir: d, Name: "x", Obj: f},
		},
		Wards:   [8]int{3: 3},
		Retired: [8]bool{7: true},
	}
}

// P12.2: the story comes to what it must, and each part of it to what the chapter says.
func TestStory(t *testing.T) {
	var s api.State
	l := story()
	isState(t, "the model of nothing", result(nil), api.State{})
	for i, e := range l {
		s = applied(t, s, e)
		isState(t, "a part of the story", s, result(l[:i+1]))
	}
	isState(t, "the story", s, told())
}

// change is a change of one field alone.
type change struct {
	name string
	do   func(s *api.State)
}

// stateChanges are changes of each field of a state that are no list's.
func stateChanges() []change {
	var l []change
	for i := range api.MaxRep {
		l = append(l,
			change{"Known", func(s *api.State) { s.Known[i]++ }},
			change{"Wards", func(s *api.State) { s.Wards[i]++ }},
			change{"Retired", func(s *api.State) { s.Retired[i] = !s.Retired[i] }},
		)
	}
	return l
}

// objectChanges are changes of each field of an object of the story, and of its versions.
func objectChanges() []change {
	l := []change{
		{"an object's Rep", func(s *api.State) { s.Objects[2].ID.Rep++ }},
		{"an object's Seq", func(s *api.State) { s.Objects[2].ID.Seq++ }},
		{"Dir", func(s *api.State) { s.Objects[1].Dir = true }},
		{"no Dir", func(s *api.State) { s.Objects[0].Dir = false }},
		{"Last's Rep", func(s *api.State) { s.Objects[1].Last.Rep++ }},
		{"Last's Seq", func(s *api.State) { s.Objects[1].Last.Seq++ }},
		{"no Last", func(s *api.State) { s.Objects[1].Last = api.ID{} }},
		{"an object's Name", func(s *api.State) { s.Objects[1].Name = "G" }},
		{"an object's longer Name", func(s *api.State) { s.Objects[1].Name += "\x00" }},
		{"no Name", func(s *api.State) { s.Objects[1].Name = "" }},
		{"a version's Rep", func(s *api.State) { s.Objects[2].Versions[3].ID.Rep++ }},
		{"a version's Seq", func(s *api.State) { s.Objects[2].Versions[3].ID.Seq++ }},
		{"Data", func(s *api.State) { s.Objects[2].Versions[1].Data = "one\x01!" }},
		{"longer Data", func(s *api.State) { s.Objects[2].Versions[1].Data += "\x00" }},
		{"no Data", func(s *api.State) { s.Objects[2].Versions[1].Data = "" }},
		{"a version less", func(s *api.State) { s.Objects[2].Versions = s.Objects[2].Versions[:3] }},
		{"another version less", func(s *api.State) { s.Objects[2].Versions = s.Objects[2].Versions[1:] }},
		{"no versions", func(s *api.State) { s.Objects[2].Versions = nil }},
		{"a version more", func(s *api.State) { s.Objects[1].Versions = []api.Version{{}} }},
		{"an object less", func(s *api.State) { s.Objects = s.Objects[:2] }},
		{"another object less", func(s *api.State) { s.Objects = s.Objects[1:] }},
		{"no objects", func(s *api.State) { s.Objects = nil }},
		{"an object more", func(s *api.State) { s.Objects = append(s.Objects, api.Object{ID: id(9, 9)}) }},
	}
	for i := range api.MaxRep {
		l = append(l,
			change{"Seen", func(s *api.State) { s.Objects[1].Seen[i]++ }},
			change{"a version's By", func(s *api.State) { s.Objects[2].Versions[0].By[i]++ }},
		)
	}
	return l
}

// entryChanges are changes of each field of an entry of the story.
func entryChanges() []change {
	l := []change{
		{"an entry's Rep", func(s *api.State) { s.Entries[4].ID.Rep++ }},
		{"an entry's Seq", func(s *api.State) { s.Entries[4].ID.Seq++ }},
		{"Dir's Rep", func(s *api.State) { s.Entries[1].Dir.Rep++ }},
		{"Dir's Seq", func(s *api.State) { s.Entries[1].Dir.Seq++ }},
		{"the root as Dir", func(s *api.State) { s.Entries[1].Dir = api.ID{} }},
		{"an entry's Name", func(s *api.State) { s.Entries[1].Name = "G" }},
		{"an entry's longer Name", func(s *api.State) { s.Entries[1].Name += "g" }},
		{"an entry without Name", func(s *api.State) { s.Entries[1].Name = "" }},
		{"Obj's Rep", func(s *api.State) { s.Entries[1].Obj.Rep++ }},
		{"Obj's Seq", func(s *api.State) { s.Entries[1].Obj.Seq++ }},
		{"Dir and Obj", func(s *api.State) { s.Entries[1].Dir, s.Entries[1].Obj = s.Entries[1].Obj, s.Entries[1].Dir }},
		{"an entry less", func(s *api.State) { s.Entries = s.Entries[:4] }},
		{"another entry less", func(s *api.State) { s.Entries = s.Entries[1:] }},
		{"no entries", func(s *api.State) { s.Entries = nil }},
		{"an entry more", func(s *api.State) { s.Entries = append(s.Entries, api.Entry{ID: id(9, 9)}) }},
	}
	for i := range api.MaxRep {
		l = append(l, change{"an entry's By", func(s *api.State) { s.Entries[1].By[i]++ }})
	}
	return l
}

// changes are all of them; each leaves the lists in their order.
func changes() []change {
	return slices.Concat(stateChanges(), objectChanges(), entryChanges())
}

// changed is the story's state with one field changed.
func changed(t *testing.T, c change) api.State {
	t.Helper()
	s := told()
	c.do(&s)
	if same(s, told()) {
		t.Fatalf("%s: nothing is changed", c.name)
	}
	return s
}
