package state_test

import (
	"math"
	"strings"
	"testing"

	"wardship/api"
	"wardship/state"
)

// fault is what makes an event be refused; of two that touch the same part only one can be.
type fault struct {
	part string
	err  api.Errno
	do   func(s *api.State, e *api.Event)
}

// general are the faults that an event of each kind can have, in the chapter's order.
func general() []fault {
	return []fault{
		{"form", api.ErrForm, func(s *api.State, e *api.Event) { e.Off = -1 }},
		{"old", api.ErrOld, func(s *api.State, e *api.Event) { s.Known = with(s.Known, e.ID) }},
		{"gap", api.ErrGap, func(s *api.State, e *api.Event) { e.Dep[6]++ }},
		{"retired", api.ErrRetired, func(s *api.State, e *api.Event) { s.Retired[e.ID.Rep-1] = true }},
	}
}

// noDir, notDir: the directory isn't there, or is a file.
func noDir(s *api.State, e *api.Event)  { e.Dir = seat }
func notDir(s *api.State, e *api.Event) { e.Dir = note }

// noObj, isDir: the object isn't there, or is a directory.
func noObj(s *api.State, e *api.Event) { e.Obj = seat }
func isDir(s *api.State, e *api.Event) { e.Obj = empty }

// tooLong: the version that the event is based on has a byte more than a file may have.
func tooLong(s *api.State, e *api.Event) { s.Objects[1].Versions[1].Data = strings.Repeat("x", 201) }

// faulty is a kind's event that has no fault on the ground, and the faults that it can have beside the general ones, in the chapter's order.
type faulty struct {
	name   string
	e      api.Event
	faults []fault
}

// base is a fault by which an event's base isn't there.
func base(l ...api.ID) fault {
	return fault{"base", api.ErrNone, func(s *api.State, e *api.Event) { e.Base = l }}
}

// kinds are events of all kinds, and their faults.
func kinds() []faulty {
	dir := []fault{{"dir", api.ErrNone, noDir}, {"dir", api.ErrNotDir, notDir}}
	obj := []fault{{"obj", api.ErrNone, noObj}}
	bytes := append(obj, fault{"obj", api.ErrIsDir, isDir})
	return []faulty{
		{"file", api.Event{Kind: api.KindFile, Dir: docs, Name: "a"}, dir},
		{"dir", api.Event{Kind: api.KindDir, Dir: docs, Name: "a"}, dir},
		{"write", api.Event{Kind: api.KindWrite, Obj: file, Base: ids(second), Data: "a"}, append(bytes[:2:2], base(seat), base(file), fault{"base", api.ErrLong, tooLong})},
		{"cut", api.Event{Kind: api.KindCut, Obj: file, Base: ids(second), Off: 1}, append(bytes[:2:2], base(seat), base(empty))},
		{"fix", api.Event{Kind: api.KindFix, Obj: file, Base: ids(first, second), Data: "a"}, append(bytes[:2:2], base(file, second), base(first, seat), base(docs, file, note))},
		{"drop", api.Event{Kind: api.KindDrop, Obj: file, Gone: ids(file)}, obj},
		{"move", api.Event{Kind: api.KindMove, Obj: file, Gone: ids(file), Dir: docs, Name: "a"}, append(obj[:1:1], dir...)},
		{"seat", api.Event{Kind: api.KindSeat, Ward: 4}, nil},
		{"retire", api.Event{Kind: api.KindRetire}, nil},
	}
}

// P12.2: each error of each kind, alone, and of each two that can come together the first one in the chapter's order.
func TestFaults(t *testing.T) {
	for _, k := range kinds() {
		all := append(general(), k.faults...)
		for _, rep := range []int{1, 3} {
			fine := on(rep, api.Vec{7}, k.e)
			applied(t, ground(t), fine)
			for i, one := range all {
				for _, other := range all[i:] {
					if one.part == other.part && one.err != other.err {
						continue
					}
					s, e := ground(t), fine
					one.do(&s, &e)
					other.do(&s, &e)
					refuses(t, k.name+": "+one.part+", "+other.part, s, e, one.err)
				}
			}
		}
	}
}

// P12.2: all faults of a kind at once come to the first one.
func TestAllFaults(t *testing.T) {
	for _, k := range kinds() {
		all := append(general(), k.faults...)
		for i := range all {
			s, e := ground(t), on(3, api.Vec{7}, k.e)
			for n := len(all) - 1; n >= i; n-- {
				all[n].do(&s, &e)
			}
			if want := expectError(s, e); want != all[i].err {
				t.Errorf("%s: the model says %d, not %d", k.name, want, all[i].err)
			}
			refuses(t, k.name+": all from "+all[i].part, s, e, all[i].err)
		}
	}
}

// P12.2: the zero event, and ones that fit nowhere, are refused as not valid, with whatever state.
func TestInvalid(t *testing.T) {
	states := []api.State{{}, told(), ground(t)}
	var l []api.Event
	for _, rep := range []int{math.MinInt, -1, 0, 9, math.MaxInt} {
		l = append(l, api.Event{ID: id(rep, 1), Kind: api.KindRetire})
	}
	l = append(l,
		api.Event{},
		api.Event{ID: id(1, 0), Kind: api.KindRetire},
		api.Event{ID: id(1, 2), Kind: api.KindRetire},
		api.Event{ID: id(1, 1), Dep: api.Vec{1}, Kind: api.KindRetire},
		api.Event{ID: id(1, 1<<20+1), Dep: api.Vec{1 << 20}, Kind: api.KindRetire},
		api.Event{ID: id(2, 1), Dep: api.Vec{1<<20 + 1}, Kind: api.KindRetire},
		api.Event{ID: id(1, 1), Kind: 0}, api.Event{ID: id(1, 1), Kind: 10}, api.Event{ID: id(1, 1), Kind: -1},
		api.Event{ID: id(1, 1), Kind: api.KindRetire, Ward: 1},
		api.Event{ID: id(1, 1), Kind: api.KindSeat, Ward: 5}, api.Event{ID: id(1, 1), Kind: api.KindSeat},
		api.Event{ID: id(1, 1), Kind: api.KindFile, Name: "a/b"}, api.Event{ID: id(1, 1), Kind: api.KindDir}, api.Event{ID: id(1, 1), Kind: api.KindFile, Name: "a", Dir: id(1, 1)},
		api.Event{ID: id(2, 1), Kind: api.KindDrop, Obj: id(1, 1)}, api.Event{ID: id(2, 1), Dep: api.Vec{7}, Kind: api.KindDrop},
		api.Event{ID: id(2, 1), Dep: api.Vec{7}, Kind: api.KindWrite, Obj: file, Base: ids(first, second), Data: "a"},
		api.Event{ID: id(2, 1), Dep: api.Vec{7}, Kind: api.KindWrite, Obj: file},
		api.Event{ID: id(2, 1), Dep: api.Vec{7}, Kind: api.KindCut, Obj: file, Data: "a"},
		api.Event{ID: id(2, 1), Dep: api.Vec{7}, Kind: api.KindFix, Obj: file, Base: ids(first)},
		api.Event{ID: id(2, 1), Dep: api.Vec{7}, Kind: api.KindFix, Obj: file, Base: ids(first, first)},
	)
	for _, s := range states {
		for _, e := range l {
			refuses(t, "an event that isn't valid", s, e, api.ErrForm)
		}
	}
}

// P12.2: known events are old, the last one and each earlier one, as they were or as others with their number.
func TestOld(t *testing.T) {
	s := told()
	for _, e := range story() {
		refuses(t, "a known event", s, e, api.ErrOld)
		refuses(t, "another event of its number", s, api.Event{ID: e.ID, Dep: e.Dep, Kind: api.KindSeat, Ward: 4}, api.ErrOld)
	}
}

// P12.2: a gap in the own replica's numbers, or in those that Dep tells of another one, by one event or by many.
func TestGap(t *testing.T) {
	for rep := 1; rep <= 7; rep++ {
		s := told()
		for _, more := range []uint32{1, 2, 1000} {
			ahead := s.Known
			ahead[rep-1] += more
			refuses(t, "a gap of its own", s, on(rep, ahead, api.Event{Kind: api.KindSeat, Ward: 1}), api.ErrGap)
			for other := 1; other <= 8; other++ {
				if other != rep {
					dep := s.Known
					dep[other-1] += more
					refuses(t, "a gap of another", s, on(rep, dep, api.Event{Kind: api.KindSeat, Ward: 1}), api.ErrGap)
				}
			}
		}
		applied(t, s, on(rep, s.Known, api.Event{Kind: api.KindSeat, Ward: 1}))
	}
	last := api.Vec{1<<20 - 1}
	e := on(1, last, api.Event{Kind: api.KindSeat, Ward: 1})
	refuses(t, "the last number behind a gap", api.State{Known: api.Vec{1<<20 - 2}}, e, api.ErrGap)
	if got := applied(t, api.State{Known: last}, e).Known; got != (api.Vec{1 << 20}) {
		t.Errorf("behind the last event %v is known", got)
	}
}

// P12.2: what a retired replica does, whatever it is, is refused; others go on.
func TestRetired(t *testing.T) {
	for rep := 1; rep <= 8; rep++ {
		s := applied(t, ground(t), on(rep, api.Vec{7}, api.Event{Kind: api.KindRetire}))
		for _, k := range kinds() {
			refuses(t, "an event of a retired replica", s, on(rep, s.Known, k.e), api.ErrRetired)
			other := rep%8 + 1
			applied(t, s, on(other, s.Known, k.e))
		}
	}
}

// P12.2: a directory that is the root, one that isn't there, one that is a file; a number with the right Seq, or the right replica, alone.
func TestDirs(t *testing.T) {
	for _, kind := range []int{api.KindFile, api.KindDir, api.KindMove} {
		for _, c := range []struct {
			dir  api.ID
			want api.Errno
		}{
			{api.ID{}, api.OK}, {docs, api.OK}, {empty, api.OK},
			{file, api.ErrNotDir}, {note, api.ErrNotDir},
			{first, api.ErrNone}, {second, api.ErrNone}, {seat, api.ErrNone}, {id(2, 1), api.ErrNone},
			{id(2, 2), api.ErrForm}, {id(3, 1), api.ErrForm}, {id(1, 8), api.ErrForm}, {id(1, 0), api.ErrForm}, {id(0, 1), api.ErrForm},
		} {
			s := applied(t, ground(t), on(2, api.Vec{7}, api.Event{Kind: api.KindSeat, Ward: 1}))
			e := on(2, s.Known, only(api.Event{Kind: kind, Obj: file, Dir: c.dir, Name: "a"}))
			if c.want != api.OK {
				refuses(t, "a directory", s, e, c.want)
			} else {
				applied(t, s, e)
			}
		}
	}
}

// P12.2: an object that isn't there, one that is a directory where a file is asked.
func TestObjects(t *testing.T) {
	for _, k := range kinds() {
		revises := isKind(k.e, api.KindWrite, api.KindCut, api.KindFix)
		if !revises && !isKind(k.e, api.KindDrop, api.KindMove) {
			continue
		}
		for _, obj := range ids(first, second, seat, docs, empty) {
			e := on(2, api.Vec{7}, k.e)
			e.Obj = obj
			_, dir := state.Object(ground(t), obj)
			switch {
			case !dir:
				refuses(t, "no object", ground(t), e, api.ErrNone)
			case revises:
				refuses(t, "a directory", ground(t), e, api.ErrIsDir)
			default:
				applied(t, ground(t), e)
			}
		}
	}
}

// P12.2: a base that isn't there: another file's version, what is no version, what comes behind ones that are there.
func TestBases(t *testing.T) {
	s := ground(t)
	s = applied(t, s, on(1, s.Known, api.Event{Kind: api.KindWrite, Obj: note, Data: "other"}))
	other := id(1, 8)
	for _, number := range ids(docs, file, seat, other) {
		refuses(t, "a write", s, on(2, s.Known, api.Event{Kind: api.KindWrite, Obj: file, Base: ids(number), Data: "a"}), api.ErrNone)
		refuses(t, "a cut", s, on(2, s.Known, api.Event{Kind: api.KindCut, Obj: file, Base: ids(number)}), api.ErrNone)
	}
	for _, l := range [][]api.ID{ids(first, other), ids(file, first), ids(first, second, seat), ids(docs, file), ids(docs, first, second), ids(first, second, seat, other)} {
		refuses(t, "a fix", s, on(2, s.Known, api.Event{Kind: api.KindFix, Obj: file, Base: l}), api.ErrNone)
	}
	for _, number := range ids(first, second) {
		refuses(t, "the other file", s, on(2, s.Known, api.Event{Kind: api.KindCut, Obj: note, Base: ids(number)}), api.ErrNone)
	}
	applied(t, s, on(2, s.Known, api.Event{Kind: api.KindCut, Obj: note, Base: ids(other)}))
}

// P12.2: bytes that are too long, which no events come to: a write on top of them is refused, a cut and a fix make others of them.
func TestLongBase(t *testing.T) {
	s := ground(t)
	tooLong(&s, nil)
	refuses(t, "a write", s, on(2, s.Known, api.Event{Kind: api.KindWrite, Obj: file, Base: ids(second), Data: "a"}), api.ErrLong)
	applied(t, s, on(2, s.Known, api.Event{Kind: api.KindWrite, Obj: file, Base: ids(first), Data: "a"}))
	applied(t, s, on(2, s.Known, api.Event{Kind: api.KindCut, Obj: file, Base: ids(second), Off: 200}))
	applied(t, s, on(2, s.Known, api.Event{Kind: api.KindFix, Obj: file, Base: ids(first, second)}))
}
