package state_test

import (
	"slices"
	"strings"
	"testing"

	"wardship/api"
	"wardship/state"
)

// The numbers of what is on the ground: two directories, two files, versions of one file, and of an event that makes nothing.
var (
	docs, file, note, empty = id(1, 1), id(1, 2), id(1, 3), id(1, 4)
	first, second           = id(1, 5), id(1, 6)
	seat                    = id(1, 7)
)

// ground is what the events of the ground come to.
func ground(t *testing.T) api.State {
	t.Helper()
	return applied(t, api.State{}, groundEvents()...)
}

// groundEvents are what replica 1 did ahead of all else.
func groundEvents() []api.Event {
	l := []api.Event{
		{Kind: api.KindDir, Name: "docs"},
		{Kind: api.KindFile, Name: "file"},
		{Kind: api.KindFile, Dir: docs, Name: "note"},
		{Kind: api.KindDir, Dir: docs, Name: "empty"},
		{Kind: api.KindWrite, Obj: file, Data: "abc"},
		{Kind: api.KindWrite, Obj: file, Base: ids(first), Off: 3, Data: "def"},
		{Kind: api.KindSeat, Ward: 1},
	}
	for i := range l {
		l[i] = on(1, api.Vec{uint32(i)}, l[i])
	}
	return l
}

// on is an event of a replica that knew dep.
func on(rep int, dep api.Vec, e api.Event) api.Event {
	e.ID, e.Dep = id(rep, dep[rep-1]+1), dep
	return e
}

// comesTo checks what an event comes to on the ground: what change says, and that it is known, and nothing else.
func comesTo(t *testing.T, what string, e api.Event, change func(s *api.State)) {
	t.Helper()
	want := copyOf(ground(t))
	want.Known = with(want.Known, e.ID)
	change(&want)
	isState(t, what, applied(t, ground(t), e), want)
}

// P12.2: a file and a directory, in the root, in a directory, in itself a place for others; their numbers say where they are in the lists.
func TestCreate(t *testing.T) {
	for _, kind := range []int{api.KindFile, api.KindDir} {
		for _, dir := range ids(api.ID{}, docs, empty) {
			for _, rep := range []int{1, 2, 8} {
				s := ground(t)
				e := on(rep, s.Known, api.Event{Kind: kind, Dir: dir, Name: "new"})
				got := applied(t, s, e)
				want := copyOf(s)
				want.Known[rep-1]++
				at, made := map[int]int{1: 4, 2: 1, 8: 1}[rep], api.Object{ID: e.ID, Dir: kind == api.KindDir, Last: e.ID, Name: "new"}
				want.Objects = slices.Insert(want.Objects, at, made)
				want.Entries = slices.Insert(want.Entries, at, api.Entry{ID: e.ID, Dir: dir, Name: "new", Obj: e.ID})
				isState(t, "a new object", got, want)
			}
		}
	}
}

// P12.2: names clash without an error, and so do entries in what has none any more.
func TestCreateOfTheSameName(t *testing.T) {
	s := ground(t)
	s = applied(t, s, on(1, s.Known, api.Event{Kind: api.KindDrop, Obj: docs, Gone: ids(docs)}))
	s = applied(t, s, on(2, s.Known, api.Event{Kind: api.KindFile, Dir: docs, Name: "note"}))
	s = applied(t, s, on(2, s.Known, api.Event{Kind: api.KindDir, Name: "file"}))
	if len(s.Objects) != 6 || len(s.Entries) != 6 || s.Entries[1].Dir != docs || s.Entries[1].Name != "note" || s.Entries[3].Name != "file" {
		t.Errorf("%+v", s)
	}
}

// P12.2: there are as many objects as events make; MaxObject is no bound here.
func TestManyObjects(t *testing.T) {
	var s api.State
	for rep := 1; rep <= 2; rep++ {
		for seq := uint32(1); seq <= 150; seq++ {
			dep := api.Vec{}
			dep[rep-1] = seq - 1
			s = applied(t, s, on(rep, dep, api.Event{Kind: api.KindFile, Name: "a"}))
		}
	}
	for i := range 300 {
		number := id(1+i%2, uint32(1+i/2))
		if s.Objects[i].ID != number || s.Entries[i].ID != number {
			t.Fatalf("at %d: %v, %v", i, s.Objects[i].ID, s.Entries[i].ID)
		}
	}
	isState(t, "bytes of many objects", written(t, s), s)
}

// P12.2: versions by a write and by a cut, of a base and of none; what they replace has them in By, and what they don't stays.
func TestVersions(t *testing.T) {
	for _, c := range []struct {
		e        api.Event
		data     string
		replaced int
	}{
		{api.Event{Kind: api.KindWrite, Data: "x"}, "x", -1},
		{api.Event{Kind: api.KindWrite, Off: 2, Data: "x"}, "\x00\x00x", -1},
		{api.Event{Kind: api.KindWrite, Base: ids(second), Off: 2, Data: "xy"}, "abxyef", 1},
		{api.Event{Kind: api.KindWrite, Base: ids(second), Off: 8, Data: "x"}, "abcdef\x00\x00x", 1},
		{api.Event{Kind: api.KindWrite, Base: ids(first), Off: 0, Data: "A"}, "Abc", 0},
		{api.Event{Kind: api.KindWrite, Base: ids(first), Off: 3, Data: "\x00\xff"}, "abc\x00\xff", 0},
		{api.Event{Kind: api.KindCut}, "", -1},
		{api.Event{Kind: api.KindCut, Off: 3}, "\x00\x00\x00", -1},
		{api.Event{Kind: api.KindCut, Base: ids(second), Off: 2}, "ab", 1},
		{api.Event{Kind: api.KindCut, Base: ids(second), Off: 6}, "abcdef", 1},
		{api.Event{Kind: api.KindCut, Base: ids(second), Off: 8}, "abcdef\x00\x00", 1},
		{api.Event{Kind: api.KindCut, Base: ids(first), Off: 0}, "", 0},
	} {
		for _, rep := range []int{1, 2} {
			e := c.e
			e.Obj = file
			e = on(rep, api.Vec{7}, e)
			comesTo(t, "a version", e, func(s *api.State) {
				l := s.Objects[1].Versions
				if c.replaced >= 0 {
					l[c.replaced].By = with(l[c.replaced].By, e.ID)
				}
				at := map[int]int{1: 2, 2: 0}[rep]
				s.Objects[1].Versions = slices.Insert(l, at, api.Version{ID: e.ID, Data: c.data})
			})
		}
	}
}

// P12.2: a file without versions gets its first one, whichever it is.
func TestFirstVersions(t *testing.T) {
	for _, c := range []struct {
		e    api.Event
		data string
	}{
		{api.Event{Kind: api.KindWrite, Data: "x"}, "x"},
		{api.Event{Kind: api.KindCut, Off: 1}, "\x00"},
		{api.Event{Kind: api.KindCut}, ""},
	} {
		e := c.e
		e.Obj = note
		comesTo(t, "a first version", on(3, api.Vec{7}, e), func(s *api.State) {
			s.Objects[2].Versions = []api.Version{{ID: id(3, 1), Data: c.data}}
		})
	}
}

// P12.2: a fix replaces what is in its base, from two versions to eight, and leaves the others; its bytes are its own.
func TestFix(t *testing.T) {
	s := ground(t)
	var all []api.ID
	for rep := 2; rep <= 8; rep++ {
		e := on(rep, api.Vec{7}, api.Event{Kind: api.KindWrite, Obj: file, Base: ids(second), Data: "x"})
		s = applied(t, s, e)
		all = append(all, e.ID)
	}
	all = append(all, first, second)
	for _, data := range []string{"", "both", strings.Repeat("z", 200)} {
		for n := 2; n <= 8; n++ {
			e := on(1, s.Known, api.Event{Kind: api.KindFix, Obj: file, Base: all[:n], Data: data})
			want := copyOf(s)
			want.Known[0]++
			for i := range n {
				want.Objects[1].Versions[i].By = with(want.Objects[1].Versions[i].By, e.ID)
			}
			want.Objects[1].Versions = append(want.Objects[1].Versions, api.Version{ID: e.ID, Data: data})
			isState(t, "a fix", applied(t, s, e), want)
		}
	}
}

// P12.2: bytes that just have room, by Off and by Data, on a base of all sizes; one more isn't a valid event.
func TestRoom(t *testing.T) {
	for _, size := range []int{1, 2, 199, 200} {
		s := ground(t)
		s = applied(t, s, on(1, s.Known, api.Event{Kind: api.KindWrite, Obj: note, Data: strings.Repeat("b", size)}))
		base := ids(id(1, 8))
		for _, c := range []struct {
			kind, off, n int
			want         api.Errno
		}{
			{api.KindWrite, 0, 200, api.OK}, {api.KindWrite, 199, 1, api.OK}, {api.KindWrite, 100, 100, api.OK},
			{api.KindWrite, 0, 201, api.ErrForm}, {api.KindWrite, 200, 1, api.ErrForm}, {api.KindWrite, 100, 101, api.ErrForm}, {api.KindWrite, 200, 0, api.ErrForm},
			{api.KindCut, 200, 0, api.OK}, {api.KindCut, 199, 0, api.OK}, {api.KindCut, 201, 0, api.ErrForm},
		} {
			e := on(2, s.Known, api.Event{Kind: c.kind, Obj: note, Base: base, Off: c.off, Data: strings.Repeat("d", c.n)})
			if c.want != api.OK {
				refuses(t, "too long by one", s, e, c.want)
				continue
			}
			data, end := applied(t, s, e).Objects[2].Versions[0].Data, max(size, c.off+c.n)
			if c.kind == api.KindCut {
				end = c.off
			}
			if len(data) != end || strings.Count(data, "d") != c.n || c.off > size && strings.Count(data, "\x00") != c.off-size {
				t.Errorf("%d bytes by %d from %d on: %q", size, c.n, c.off, data)
			}
		}
	}
}

// P12.2: an entry goes, or some, or none; the object stays, and so do its name and its versions; Seen is what the replica knew, and the event.
func TestDrop(t *testing.T) {
	for _, obj := range ids(docs, file, note, empty) {
		at := slices.Index(ids(docs, file, note, empty), obj)
		for _, gone := range [][]api.ID{nil, ids(obj)} {
			e := on(2, api.Vec{7}, api.Event{Kind: api.KindDrop, Obj: obj, Gone: gone})
			comesTo(t, "a drop", e, func(s *api.State) {
				s.Objects[at].Seen = api.Vec{7, 1}
				if gone != nil {
					s.Entries[at].By = api.Vec{0, 1}
				}
			})
		}
	}
}

// P12.2: a move gives the object another entry, and a name; it sees nothing. A directory may be moved into itself.
func TestMove(t *testing.T) {
	for at, obj := range ids(docs, file, note, empty) {
		for _, dir := range ids(api.ID{}, docs, empty) {
			for _, gone := range [][]api.ID{nil, ids(obj)} {
				e := on(1, api.Vec{7}, api.Event{Kind: api.KindMove, Obj: obj, Gone: gone, Dir: dir, Name: "new"})
				comesTo(t, "a move", e, func(s *api.State) {
					s.Objects[at].Last, s.Objects[at].Name = e.ID, "new"
					if gone != nil {
						s.Entries[at].By = api.Vec{8}
					}
					s.Entries = append(s.Entries, api.Entry{ID: e.ID, Dir: dir, Name: "new", Obj: obj})
				})
			}
		}
	}
}

// P12.2: a move whose number is less than the object's, or than another move's, makes an entry and no name; one with the same Seq makes one if its replica is greater.
func TestMoveOfALesserNumber(t *testing.T) {
	for rep := 2; rep <= 8; rep++ {
		e := on(rep, api.Vec{7}, api.Event{Kind: api.KindMove, Obj: file, Name: "new"})
		comesTo(t, "a move of a lesser number", e, func(s *api.State) {
			s.Entries = slices.Insert(s.Entries, 1, api.Entry{ID: e.ID, Name: "new", Obj: file})
		})
		e = on(rep, api.Vec{7}, api.Event{Kind: api.KindMove, Obj: docs, Name: "new"})
		comesTo(t, "a move of the same Seq", e, func(s *api.State) {
			s.Objects[0].Last, s.Objects[0].Name = e.ID, "new"
			s.Entries = slices.Insert(s.Entries, 1, api.Entry{ID: e.ID, Name: "new", Obj: docs})
		})
	}
	s := api.State{}
	s = applied(t, s, on(3, s.Known, api.Event{Kind: api.KindFile, Name: "old"}))
	s = applied(t, s, on(2, s.Known, api.Event{Kind: api.KindMove, Obj: id(3, 1), Name: "new"}))
	if o := s.Objects[0]; o.Last != id(3, 1) || o.Name != "old" || len(s.Entries) != 2 || s.Entries[0].ID != id(2, 1) {
		t.Errorf("%+v", s)
	}
}

// P12.2: numbers in Gone that are no entries, or entries of another object, are ignored, alone and beside right ones, of a drop and of a move.
func TestOddGone(t *testing.T) {
	odd := [][]api.ID{ids(docs), ids(note), ids(first), ids(seat), ids(docs, note, empty, first, second, seat), nil}
	for _, kind := range []int{api.KindDrop, api.KindMove} {
		for _, gone := range odd {
			for _, right := range [][]api.ID{nil, ids(file)} {
				e := on(2, api.Vec{7}, api.Event{Kind: kind, Obj: file})
				e.Gone = slices.SortedFunc(slices.Values(slices.Concat(gone, right)), byNumber)
				if kind == api.KindMove {
					e.Name = "new"
				}
				comesTo(t, "odd numbers", e, func(s *api.State) {
					if right != nil {
						s.Entries[1].By = api.Vec{0, 1}
					}
					if kind == api.KindDrop {
						s.Objects[1].Seen = api.Vec{7, 1}
					} else {
						s.Entries = slices.Insert(s.Entries, 1, api.Entry{ID: e.ID, Name: "new", Obj: file})
					}
				})
			}
		}
		refuses(t, "the same twice", ground(t), on(2, api.Vec{7}, only(api.Event{Kind: kind, Obj: file, Gone: ids(file, file), Name: "a"})), api.ErrForm)
		refuses(t, "not in order", ground(t), on(2, api.Vec{7}, only(api.Event{Kind: kind, Obj: file, Gone: ids(file, docs), Name: "a"})), api.ErrForm)
		refuses(t, "its own number", ground(t), on(2, api.Vec{7}, only(api.Event{Kind: kind, Obj: file, Gone: ids(id(2, 1)), Name: "a"})), api.ErrForm)
	}
}

// P12.2: what went may go once more, and several may go at once; By has each of the events.
func TestGoneTwice(t *testing.T) {
	s := ground(t)
	s = applied(t, s, on(2, s.Known, api.Event{Kind: api.KindMove, Obj: file, Name: "two"}))
	s = applied(t, s, on(3, s.Known, api.Event{Kind: api.KindMove, Obj: file, Gone: ids(file), Name: "three"}))
	s = applied(t, s, on(2, s.Known, api.Event{Kind: api.KindDrop, Obj: file, Gone: ids(id(2, 1), id(3, 1), file)}))
	s = applied(t, s, on(1, s.Known, api.Event{Kind: api.KindDrop, Obj: file, Gone: ids(id(2, 1), file)}))
	want := map[api.ID]api.Vec{file: {8, 2, 1}, id(2, 1): {8, 2}, id(3, 1): {0, 2}}
	for _, x := range s.Entries {
		if x.By != want[x.ID] {
			t.Errorf("%v went by %v", x.ID, x.By)
		}
	}
	if s.Objects[1].Seen != (api.Vec{8, 2, 1}) {
		t.Errorf("Seen is %v", s.Objects[1].Seen)
	}
}

// P12.2: a seat says the ward, and a later one another one; a retirement says nothing else.
func TestSeatAndRetire(t *testing.T) {
	for rep := 1; rep <= 8; rep++ {
		for ward := 1; ward <= 4; ward++ {
			comesTo(t, "a seat", on(rep, api.Vec{7}, api.Event{Kind: api.KindSeat, Ward: ward}), func(s *api.State) { s.Wards[rep-1] = ward })
		}
		comesTo(t, "a retirement", on(rep, api.Vec{7}, api.Event{Kind: api.KindRetire}), func(s *api.State) { s.Retired[rep-1] = true })
	}
	s := ground(t)
	for _, ward := range []int{4, 2, 2, 3} {
		s = applied(t, s, on(5, s.Known, api.Event{Kind: api.KindSeat, Ward: ward}))
		if s.Wards != [8]int{1, 0, 0, 0, ward} {
			t.Errorf("wards %v", s.Wards)
		}
	}
}

// P12.2: what is applied to a state from which something was swept is what it says for the rest.
func TestSwept(t *testing.T) {
	s := ground(t)
	s.Objects[1].Versions = s.Objects[1].Versions[1:]
	s.Entries = slices.Delete(s.Entries, 1, 2)
	s.Objects = slices.Delete(s.Objects, 2, 3)
	refuses(t, "a version that was swept", s, on(2, s.Known, api.Event{Kind: api.KindCut, Obj: file, Base: ids(first)}), api.ErrNone)
	refuses(t, "an object that was swept", s, on(2, s.Known, api.Event{Kind: api.KindDrop, Obj: note}), api.ErrNone)
	got := applied(t, s, on(2, s.Known, api.Event{Kind: api.KindMove, Obj: file, Gone: ids(file), Name: "back"}))
	if len(got.Entries) != 4 || got.Entries[1].Name != "back" || got.Entries[1].By != (api.Vec{}) {
		t.Errorf("%+v", got)
	}
	isState(t, "the bytes of a state that was swept", written(t, got), got)
}

// The chapter's example: two moves without each other's knowledge, both of which remove the entry.
func TestExample(t *testing.T) {
	s := applied(t, api.State{}, api.Event{ID: id(1, 1), Kind: api.KindFile, Name: "a"})
	one := on(1, s.Known, api.Event{Kind: api.KindMove, Obj: id(1, 1), Gone: ids(id(1, 1)), Name: "b"})
	two := on(2, s.Known, api.Event{Kind: api.KindMove, Obj: id(1, 1), Gone: ids(id(1, 1)), Name: "c"})
	for _, l := range [][]api.Event{{one, two}, {two, one}} {
		isState(t, "two moves", applied(t, s, l...), api.State{
			Known:   api.Vec{2, 1},
			Objects: []api.Object{{ID: id(1, 1), Last: id(1, 2), Name: "b"}},
			Entries: []api.Entry{
				{ID: id(1, 1), Name: "a", Obj: id(1, 1), By: api.Vec{2, 1}},
				{ID: id(2, 1), Name: "c", Obj: id(1, 1)},
				{ID: id(1, 2), Name: "b", Obj: id(1, 1)},
			},
		})
	}
}

// written is the state that is read from the bytes of a state.
func written(t *testing.T, s api.State) api.State {
	t.Helper()
	got, err := state.Read(state.Write(s))
	if err != api.OK {
		t.Errorf("Read of what was written: %d", err)
	}
	return got
}
