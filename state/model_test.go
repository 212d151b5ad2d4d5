package state_test

import (
	"cmp"
	"slices"
	"strings"
	"testing"

	"wardship/api"
	"wardship/event"
	"wardship/state"
)

// id is an event's number.
func id(rep int, seq uint32) api.ID { return api.ID{Rep: rep, Seq: seq} }

// ids is a list of numbers.
func ids(l ...api.ID) []api.ID { return l }

// byNumber is how two event numbers are in order, told anew.
func byNumber(a, b api.ID) int {
	return cmp.Or(cmp.Compare(a.Seq, b.Seq), cmp.Compare(a.Rep, b.Rep))
}

// inside tells whether v contains x, told anew.
func inside(v api.Vec, x api.ID) bool {
	for i, n := range v {
		if x.Rep == i+1 && x.Seq != 0 && x.Seq <= n {
			return true
		}
	}
	return false
}

// with is v and x, and what precedes x, told anew.
func with(v api.Vec, x api.ID) api.Vec {
	if !inside(v, x) {
		v[x.Rep-1] = x.Seq
	}
	return v
}

// atMost tells whether each number of a is at most that of b.
func atMost(a, b api.Vec) bool {
	for i, n := range a {
		if n > b[i] {
			return false
		}
	}
	return true
}

// isKind tells whether an event is of one of some kinds.
func isKind(e api.Event, kinds ...int) bool { return slices.Contains(kinds, e.Kind) }

// result is what the chapter says that events come to, told anew: from all of them at once, without any order among them.
func result(all []api.Event) api.State {
	var s api.State
	seats := map[int]uint32{}
	for _, e := range all {
		s.Known = with(s.Known, e.ID)
		switch {
		case isKind(e, api.KindFile, api.KindDir):
			s.Objects = append(s.Objects, resultObject(all, e))
			s.Entries = append(s.Entries, resultEntry(all, e, e.ID))
		case isKind(e, api.KindMove):
			s.Entries = append(s.Entries, resultEntry(all, e, e.Obj))
		case isKind(e, api.KindSeat) && e.ID.Seq > seats[e.ID.Rep]:
			seats[e.ID.Rep] = e.ID.Seq
			s.Wards[e.ID.Rep-1] = e.Ward
		case isKind(e, api.KindRetire):
			s.Retired[e.ID.Rep-1] = true
		}
	}
	slices.SortFunc(s.Objects, func(a, b api.Object) int { return byNumber(a.ID, b.ID) })
	slices.SortFunc(s.Entries, func(a, b api.Entry) int { return byNumber(a.ID, b.ID) })
	return s
}

// resultObject is the object that the event made comes to.
func resultObject(all []api.Event, made api.Event) api.Object {
	o := api.Object{ID: made.ID, Dir: made.Kind == api.KindDir, Last: made.ID, Name: made.Name}
	for _, e := range all {
		switch {
		case e.Obj != made.ID:
		case isKind(e, api.KindMove) && byNumber(e.ID, o.Last) > 0:
			o.Last, o.Name = e.ID, e.Name
		case isKind(e, api.KindDrop):
			for i, n := range with(e.Dep, e.ID) {
				o.Seen[i] = max(o.Seen[i], n)
			}
		case isKind(e, api.KindWrite, api.KindCut, api.KindFix):
			o.Versions = append(o.Versions, resultVersion(all, e))
		}
	}
	slices.SortFunc(o.Versions, func(a, b api.Version) int { return byNumber(a.ID, b.ID) })
	return o
}

// resultVersion is the version that the event made comes to.
func resultVersion(all []api.Event, made api.Event) api.Version {
	v := api.Version{ID: made.ID, Data: resultData(all, made)}
	for _, e := range all {
		if isKind(e, api.KindWrite, api.KindCut, api.KindFix) && slices.Contains(e.Base, made.ID) {
			v.By = with(v.By, e.ID)
		}
	}
	return v
}

// resultData is the bytes of the version that an event makes.
func resultData(all []api.Event, e api.Event) string {
	if e.Kind == api.KindFix {
		return e.Data
	}
	data := ""
	for _, other := range all {
		if slices.Contains(e.Base, other.ID) {
			data = resultData(all, other)
		}
	}
	longer := data + strings.Repeat("\x00", max(0, e.Off-len(data)))
	if e.Kind == api.KindCut {
		return longer[:e.Off]
	}
	return longer[:e.Off] + e.Data + longer[min(len(longer), e.Off+len(e.Data)):]
}

// resultEntry is the entry of an object that the event made comes to.
func resultEntry(all []api.Event, made api.Event, obj api.ID) api.Entry {
	x := api.Entry{ID: made.ID, Dir: made.Dir, Name: made.Name, Obj: obj}
	for _, e := range all {
		if isKind(e, api.KindDrop, api.KindMove) && e.Obj == obj && slices.Contains(e.Gone, made.ID) {
			x.By = with(x.By, e.ID)
		}
	}
	return x
}

// objectOf is the object of a state with a number, told anew; nil: there is none.
func objectOf(s api.State, number api.ID) *api.Object {
	for i := range s.Objects {
		if s.Objects[i].ID == number {
			return &s.Objects[i]
		}
	}
	return nil
}

// expectError is the error that the chapter tells of Apply, told anew.
func expectError(s api.State, e api.Event) api.Errno {
	switch {
	case !event.Check(e):
		return api.ErrForm
	case inside(s.Known, e.ID):
		return api.ErrOld
	case !atMost(e.Dep, s.Known):
		return api.ErrGap
	case s.Retired[e.ID.Rep-1]:
		return api.ErrRetired
	case isKind(e, api.KindSeat, api.KindRetire):
		return api.OK
	}
	o, dir := objectOf(s, e.Obj), objectOf(s, e.Dir)
	touches, revises := !isKind(e, api.KindFile, api.KindDir), isKind(e, api.KindWrite, api.KindCut, api.KindFix)
	switch {
	case touches && o == nil:
		return api.ErrNone
	case e.Dir != api.ID{} && dir == nil:
		return api.ErrNone
	case e.Dir != api.ID{} && !dir.Dir:
		return api.ErrNotDir
	case revises && o.Dir:
		return api.ErrIsDir
	case !revises:
		return api.OK
	}
	for _, number := range e.Base {
		at := slices.IndexFunc(o.Versions, func(v api.Version) bool { return v.ID == number })
		if at < 0 {
			return api.ErrNone
		}
		if e.Kind == api.KindWrite && len(o.Versions[at].Data) > 200 {
			return api.ErrLong
		}
	}
	return api.OK
}

// same tells whether two states are equal, field by field, told anew.
func same(a, b api.State) bool {
	if a.Known != b.Known || a.Wards != b.Wards || a.Retired != b.Retired || len(a.Objects) != len(b.Objects) || len(a.Entries) != len(b.Entries) {
		return false
	}
	for i, x := range a.Entries {
		if x != b.Entries[i] {
			return false
		}
	}
	for i, o := range a.Objects {
		p := b.Objects[i]
		if len(o.Versions) != len(p.Versions) {
			return false
		}
		for k, v := range o.Versions {
			if v != p.Versions[k] {
				return false
			}
		}
		if o.ID != p.ID || o.Dir != p.Dir || o.Last != p.Last || o.Name != p.Name || o.Seen != p.Seen {
			return false
		}
	}
	return true
}

// copyOf is a state with lists of its own, told anew.
func copyOf(s api.State) api.State {
	s.Objects, s.Entries = append([]api.Object(nil), s.Objects...), append([]api.Entry(nil), s.Entries...)
	for i := range s.Objects {
		s.Objects[i].Versions = append([]api.Version(nil), s.Objects[i].Versions...)
	}
	return s
}

// isState checks a state.
func isState(t *testing.T, what string, got, want api.State) {
	t.Helper()
	if !same(got, want) {
		t.Fatalf("%s:\n%+v, not\n%+v", what, got, want)
	}
}

// refuses checks that an event is refused, and that this leaves all as it was.
func refuses(t *testing.T, what string, s api.State, e api.Event, want api.Errno) {
	t.Helper()
	wasS, wasE := copyOf(s), e
	wasE.Gone, wasE.Base = slices.Clone(e.Gone), slices.Clone(e.Base)
	got, err := state.Apply(s, e)
	if err != want || !same(got, api.State{}) || got.Objects != nil || got.Entries != nil {
		t.Fatalf("%s: %+v, %d, not %d", what, got, err, want)
	}
	if !same(s, wasS) || !event.Same(e, wasE) {
		t.Fatalf("%s: what was handed in became\n%+v\n%+v", what, s, e)
	}
}

// applied is a state with events more, none of which is refused; what is handed in stays as it was.
func applied(t *testing.T, s api.State, l ...api.Event) api.State {
	t.Helper()
	for _, e := range l {
		wasS, wasE := copyOf(s), e
		wasE.Gone, wasE.Base = slices.Clone(e.Gone), slices.Clone(e.Base)
		next, err := state.Apply(s, e)
		if err != api.OK {
			t.Fatalf("Apply of %+v: %d", e, err)
		}
		if !same(s, wasS) || !event.Same(e, wasE) {
			t.Fatalf("what was handed in became\n%+v\n%+v", s, e)
		}
		s = next
	}
	return s
}
