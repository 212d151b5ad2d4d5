package history_test

import (
	"slices"
	"strings"
	"testing"

	"wardship/api"
	"wardship/history"
	"wardship/state"
)

// story is a row of events of each kind, of several replicas, some of which know nothing of each other, in an order in which they can be applied.
func story() []api.Event {
	d, f := id(1, 1), id(1, 2)
	return []api.Event{
		{ID: d, Kind: api.KindDir, Name: "dir"},
		{ID: f, Dep: api.Vec{1}, Kind: api.KindFile, Name: "file"},
		{ID: id(4, 1), Kind: api.KindSeat, Ward: 2},
		{ID: id(1, 3), Dep: api.Vec{2}, Kind: api.KindWrite, Obj: f, Data: "one"},
		{ID: id(2, 1), Dep: api.Vec{3}, Kind: api.KindFile, Dir: d, Name: "other"},
		{ID: id(2, 2), Dep: api.Vec{3, 1}, Kind: api.KindWrite, Obj: f, Base: ids(id(1, 3)), Off: 4, Data: "two"},
		{ID: id(1, 4), Dep: api.Vec{3}, Kind: api.KindCut, Obj: f, Base: ids(id(1, 3)), Off: 2},
		{ID: id(3, 1), Dep: api.Vec{4, 2}, Kind: api.KindFix, Obj: f, Base: ids(id(2, 2), id(1, 4)), Data: "both"},
		{ID: id(8, 1), Kind: api.KindRetire},
		{ID: id(1, 5), Dep: api.Vec{4}, Kind: api.KindMove, Obj: f, Gone: ids(f), Dir: d, Name: "here"},
		{ID: id(2, 3), Dep: api.Vec{3, 2}, Kind: api.KindMove, Obj: f, Gone: ids(f), Name: "there"},
		{ID: id(3, 2), Dep: api.Vec{5, 3, 1}, Kind: api.KindDrop, Obj: f, Gone: ids(id(2, 3))},
		{ID: id(4, 2), Dep: api.Vec{1, 0, 0, 1}, Kind: api.KindSeat, Ward: 3},
	}
}

// storyKnown is what is known behind the story.
func storyKnown() api.Vec { return api.Vec{5, 3, 2, 2, 0, 0, 0, 1} }

// comesTo is the state that events come to.
func comesTo(t *testing.T, l ...api.Event) api.State {
	t.Helper()
	var s api.State
	for _, e := range l {
		next, err := state.Apply(s, e)
		if err != api.OK {
			t.Fatalf("Apply of %+v: %d", e, err)
		}
		s = next
	}
	return s
}

// started is a history that starts with the state that events come to, and its model.
func started(t *testing.T, l ...api.Event) (*history.History, *model) {
	t.Helper()
	s := comesTo(t, l...)
	h, m := history.Start(s), begun(s)
	is(t, "a history at its start", h, m)
	return h, m
}

// teller is a history that can tell so much of the story: the events behind the first known ones, with which it starts.
func teller(t *testing.T, known int) (*history.History, *model) {
	t.Helper()
	h, m := started(t, story()[:known]...)
	adds(t, h, m, story()[known:]...)
	is(t, "a history with the story", h, m)
	return h, m
}

// numbers are the numbers of events.
func numbers(l []api.Event) []api.ID {
	var n []api.ID
	for _, e := range l {
		n = append(n, e.ID)
	}
	return n
}

// areNumbers checks which events there are, in their order.
func areNumbers(t *testing.T, what string, got []api.Event, want ...api.ID) {
	t.Helper()
	if !slices.Equal(numbers(got), want) {
		t.Errorf("%s: %v, not %v", what, numbers(got), want)
	}
}

// wrong is an event that the story's end refuses, and how.
type wrong struct {
	name string
	e    api.Event
	err  api.Errno
}

// on is an event of a replica on top of the story.
func on(rep int, e api.Event) api.Event {
	e.Dep = storyKnown()
	e.ID = id(rep, e.Dep[rep-1]+1)
	return e
}

// wrongs are events that can't be added behind the story, with each error of Apply that events can come to.
func wrongs() []wrong {
	d, f, seat := id(1, 1), id(1, 2), id(4, 1)
	gap := on(5, api.Event{Kind: api.KindSeat, Ward: 1})
	gap.Dep[0]++
	ahead := on(5, api.Event{Kind: api.KindSeat, Ward: 1})
	ahead.ID.Seq, ahead.Dep[4] = 3, 2
	return []wrong{
		{"nothing", api.Event{}, api.ErrForm},
		{"no kind", on(5, api.Event{}), api.ErrForm},
		{"a field that isn't its own", on(5, api.Event{Kind: api.KindRetire, Ward: 1}), api.ErrForm},
		{"no replica", api.Event{ID: id(9, 1), Kind: api.KindRetire}, api.ErrForm},
		{"no place", api.Event{ID: id(5, 0), Kind: api.KindRetire}, api.ErrForm},
		{"a gap", gap, api.ErrGap},
		{"a gap of its own", ahead, api.ErrGap},
		{"retired", on(8, api.Event{Kind: api.KindSeat, Ward: 1}), api.ErrRetired},
		{"no directory", on(5, api.Event{Kind: api.KindFile, Dir: seat, Name: "new"}), api.ErrNone},
		{"a file as a directory", on(5, api.Event{Kind: api.KindDir, Dir: f, Name: "new"}), api.ErrNotDir},
		{"no object", on(5, api.Event{Kind: api.KindDrop, Obj: seat}), api.ErrNone},
		{"no directory to move to", on(5, api.Event{Kind: api.KindMove, Obj: f, Dir: seat, Name: "new"}), api.ErrNone},
		{"a file to move to", on(5, api.Event{Kind: api.KindMove, Obj: f, Dir: id(2, 1), Name: "new"}), api.ErrNotDir},
		{"a directory to write", on(5, api.Event{Kind: api.KindWrite, Obj: d, Data: "new"}), api.ErrIsDir},
		{"a directory to cut", on(5, api.Event{Kind: api.KindCut, Obj: d}), api.ErrIsDir},
		{"no version", on(5, api.Event{Kind: api.KindCut, Obj: f, Base: ids(seat)}), api.ErrNone},
		{"no versions", on(5, api.Event{Kind: api.KindFix, Obj: f, Base: ids(seat, id(1, 3))}), api.ErrNone},
	}
}

// rights are events that can be added behind the story, one of each kind.
func rights() []api.Event {
	d, f := id(1, 1), id(1, 2)
	return []api.Event{
		on(2, api.Event{Kind: api.KindFile, Dir: d, Name: "new"}),
		on(2, api.Event{Kind: api.KindDir, Name: "new"}),
		on(3, api.Event{Kind: api.KindWrite, Obj: f, Base: ids(id(3, 1)), Off: 1, Data: "new"}),
		on(3, api.Event{Kind: api.KindCut, Obj: f, Base: ids(id(3, 1)), Off: 1}),
		on(5, api.Event{Kind: api.KindFix, Obj: f, Base: ids(id(2, 2), id(1, 3)), Data: "new"}),
		on(5, api.Event{Kind: api.KindDrop, Obj: f, Gone: ids(id(1, 5))}),
		on(1, api.Event{Kind: api.KindMove, Obj: f, Gone: ids(id(1, 5)), Name: "new"}),
		on(4, api.Event{Kind: api.KindSeat, Ward: 1}),
		on(7, api.Event{Kind: api.KindRetire}),
	}
}

// longState is a state that no events come to: the latest version of a file has more bytes than a file may have, so that an event gets ErrLong.
func longState(t *testing.T) (api.State, api.Event) {
	t.Helper()
	s := comesTo(t, story()...)
	for i := range s.Objects {
		for k := range s.Objects[i].Versions {
			s.Objects[i].Versions[k].Data = strings.Repeat("x", 201)
		}
	}
	return s, on(5, api.Event{Kind: api.KindWrite, Obj: id(1, 2), Base: ids(id(3, 1)), Data: "new"})
}

// The chapter's example: three events, of which two are told no more.
func TestExample(t *testing.T) {
	h, m := started(t)
	for i := range uint32(3) {
		adds(t, h, m, api.Event{ID: id(1, i+1), Dep: api.Vec{i}, Kind: api.KindSeat, Ward: 1})
	}
	if h.Len() != 3 || h.Floor() != (api.Vec{}) || h.Known() != (api.Vec{3}) {
		t.Errorf("%d events, the floor %v, %v is known", h.Len(), h.Floor(), h.Known())
	}
	if err := h.Trim(api.Vec{2}); err != api.OK || h.Len() != 1 || h.Floor() != (api.Vec{2}) {
		t.Errorf("Trim: %d, %d events, the floor %v", err, h.Len(), h.Floor())
	}
	isOld(t, h, api.Vec{1})
	areNumbers(t, "Since the floor", since(t, h, api.Vec{2}), id(1, 3))
	areNumbers(t, "Since all", since(t, h, api.Vec{3}))
}

// P16.1: the story, event by event; what can be told is the story, in its order.
func TestStory(t *testing.T) {
	h, m := started(t)
	for i, e := range story() {
		adds(t, h, m, e)
		is(t, "a part of the story", h, m)
		areEvents(t, "what can be told", since(t, h, api.Vec{}), story()[:i+1])
	}
	if h.Known() != storyKnown() || h.Floor() != (api.Vec{}) {
		t.Errorf("%v is known, the floor %v", h.Known(), h.Floor())
	}
}
