package state

import (
	"slices"
	"strings"

	"wardship/api"
	"wardship/entry"
	"wardship/event"
	"wardship/vec"
	"wardship/version"
)

// Apply is a state with an event more.
func Apply(s api.State, e api.Event) (api.State, api.Errno) {
	if err := due(s, e); err != api.OK {
		return api.State{}, err
	}
	// What the event does is done to a copy, of which nothing is left if the event turns out to be refused.
	next := Clone(s)
	if err := do(&next, e); err != api.OK {
		return api.State{}, err
	}
	next.Known = vec.With(next.Known, e.ID)
	return next, api.OK
}

// due is why an event can't be the next one to be applied, whatever it does.
func due(s api.State, e api.Event) api.Errno {
	switch {
	case !event.Check(e):
		return api.ErrForm
	case vec.Has(s.Known, e.ID):
		return api.ErrOld
	case !vec.Leq(e.Dep, s.Known):
		return api.ErrGap
	case s.Retired[e.ID.Rep-1]:
		return api.ErrRetired
	}
	return api.OK
}

// do does to a state what a valid event of its kind does.
func do(s *api.State, e api.Event) api.Errno {
	switch e.Kind {
	case api.KindFile, api.KindDir:
		return create(s, e)
	case api.KindWrite, api.KindCut, api.KindFix:
		return revise(s, e)
	case api.KindDrop:
		return drop(s, e)
	case api.KindMove:
		return move(s, e)
	case api.KindSeat:
		s.Wards[e.ID.Rep-1] = e.Ward
	case api.KindRetire:
		s.Retired[e.ID.Rep-1] = true
	}
	return api.OK
}

// create makes an object, and its first entry.
func create(s *api.State, e api.Event) api.Errno {
	if err := canHold(s, e.Dir); err != api.OK {
		return err
	}
	at, _ := find(s.Objects, e.ID)
	made := api.Object{ID: e.ID, Dir: e.Kind == api.KindDir, Last: e.ID, Name: strings.Clone(e.Name)}
	s.Objects = slices.Insert(s.Objects, at, made)
	s.Entries = entry.Add(s.Entries, entryOf(e, e.ID))
	return api.OK
}

// revise gives a file another version, in the place of those that the event had seen.
func revise(s *api.State, e api.Event) api.Errno {
	file, err := object(s, e.Obj)
	if err != api.OK {
		return err
	}
	if file.Dir {
		return api.ErrIsDir
	}
	data, err := contents(file.Versions, e)
	if err != api.OK {
		return err
	}
	versions, err := version.Add(file.Versions, e.Base, api.Version{ID: e.ID, Data: data})
	if err != api.OK {
		return err
	}
	file.Versions = versions
	return api.OK
}

// contents is the bytes that a file has by an event.
func contents(l []api.Version, e api.Event) (string, api.Errno) {
	if e.Kind == api.KindFix {
		return e.Data, api.OK
	}
	// The zero number has no bytes, which is what an event without a base starts from.
	var base api.ID
	if len(e.Base) > 0 {
		base = e.Base[0]
	}
	data, err := version.Data(l, base)
	if err != api.OK {
		return "", err
	}
	if e.Kind == api.KindCut {
		return version.Cut(data, e.Off)
	}
	return version.Patch(data, e.Off, e.Data)
}

// drop lets entries of an object go, and notes what was known of the object by then.
func drop(s *api.State, e api.Event) api.Errno {
	dropped, err := object(s, e.Obj)
	if err != api.OK {
		return err
	}
	dropped.Seen = vec.Join(dropped.Seen, vec.With(e.Dep, e.ID))
	s.Entries = without(s.Entries, e)
	return api.OK
}

// move lets entries of an object go, and gives it another one, and the name of that one unless a greater number named it.
func move(s *api.State, e api.Event) api.Errno {
	moved, err := object(s, e.Obj)
	if err != api.OK {
		return err
	}
	if err := canHold(s, e.Dir); err != api.OK {
		return err
	}
	if vec.Less(moved.Last, e.ID) {
		moved.Last, moved.Name = e.ID, strings.Clone(e.Name)
	}
	s.Entries = entry.Add(without(s.Entries, e), entryOf(e, e.Obj))
	return api.OK
}

// object is an object of a state, in its place.
func object(s *api.State, id api.ID) (*api.Object, api.Errno) {
	at, there := find(s.Objects, id)
	if !there {
		return nil, api.ErrNone
	}
	return &s.Objects[at], api.OK
}

// canHold is why there can't be an entry in what has the number dir; in the root, which is no object, there always can.
func canHold(s *api.State, dir api.ID) api.Errno {
	if dir == (api.ID{}) {
		return api.OK
	}
	holder, err := object(s, dir)
	if err != api.OK {
		return err
	}
	if !holder.Dir {
		return api.ErrNotDir
	}
	return api.OK
}

// entryOf is the entry that an event makes for an object.
func entryOf(e api.Event, obj api.ID) api.Entry {
	return api.Entry{ID: e.ID, Dir: e.Dir, Name: e.Name, Obj: obj}
}

// without is entries of which those went that the event lets go; others than its object's stay, whatever it says.
func without(l []api.Entry, e api.Event) []api.Entry {
	left := l
	for _, x := range l {
		if x.Obj == e.Obj && slices.Contains(e.Gone, x.ID) {
			left = entry.Kill(left, x.ID, e.ID)
		}
	}
	return left
}
