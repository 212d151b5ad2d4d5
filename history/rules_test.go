package history_test

import (
	"iter"
	"slices"
	"strings"
	"testing"
	"unsafe"

	"wardship/api"
	"wardship/event"
	"wardship/history"
	"wardship/state"
)

// stateCopy is a state with lists of its own, told anew.
func stateCopy(s api.State) api.State {
	s.Objects, s.Entries = append([]api.Object(nil), s.Objects...), append([]api.Entry(nil), s.Entries...)
	for i := range s.Objects {
		s.Objects[i].Versions = append([]api.Version(nil), s.Objects[i].Versions...)
	}
	return s
}

// spoilState changes all that a state can reach, also behind the ends of its lists.
func spoilState(s api.State) {
	for _, o := range s.Objects[:cap(s.Objects)] {
		versions := o.Versions[:cap(o.Versions)]
		for i := range versions {
			versions[i] = api.Version{ID: id(7, 7), Data: "spoilt", By: api.Vec{7}}
		}
	}
	objects, entries := s.Objects[:cap(s.Objects)], s.Entries[:cap(s.Entries)]
	for i := range objects {
		objects[i] = api.Object{ID: id(7, 7), Name: "spoilt"}
	}
	for i := range entries {
		entries[i] = api.Entry{ID: id(7, 7), Name: "spoilt", Obj: id(7, 7)}
	}
}

// spoilIDs changes all numbers that a list can reach.
func spoilIDs(l []api.ID) {
	l = l[:cap(l)]
	for i := range l {
		l[i] = id(7, 7)
	}
}

// spoilEvents changes all that events can reach.
func spoilEvents(l []api.Event) {
	for i := range l {
		spoilIDs(l[i].Gone)
		spoilIDs(l[i].Base)
		l[i] = api.Event{ID: id(7, 7), Name: "spoilt"}
	}
}

// full are events that have all lists and texts that the story's have.
func full() []api.Event {
	l := story()
	for i := range l {
		l[i].Name, l[i].Data = strings.Clone(l[i].Name), strings.Clone(l[i].Data)
	}
	return l
}

// Rule 4: what is handed in stays as it was, and may be changed later without anything to be seen of it.
func TestArgumentsAreNotKept(t *testing.T) {
	for known := range len(story()) + 1 {
		s, log := comesTo(t, story()[:known]...), full()
		wasS, wasLog := stateCopy(s), copiesOf(log)
		started := history.Start(s)
		resumed, err := history.Resume(s, api.Vec{}, log)
		if err != api.OK {
			t.Fatal(err)
		}
		added := history.Start(s)
		for _, e := range log[known:] {
			if err := added.Add(e); err != api.OK {
				t.Fatal(err)
			}
		}
		swapped := history.Start(s)
		if err := swapped.Swap(s); err != api.OK {
			t.Fatal(err)
		}
		if !state.Same(s, wasS) {
			t.Fatalf("the state became %+v", s)
		}
		areEvents(t, "what was handed in", log, wasLog)
		spoilState(s)
		spoilEvents(log)
		is(t, "Start, behind a change of the state", started, begun(wasS))
		is(t, "Swap, behind a change of the state", swapped, begun(wasS))
		m, _ := expectResume(wasS, api.Vec{}, story())
		is(t, "Resume, behind a change of the log", resumed, m)
		_, m = teller(t, known)
		is(t, "Add, behind a change of the event", added, m)
	}
}

// Rule 4: what was answered may be changed without anything to be seen of it, in the history or in other answers.
func TestAnswersShareNothing(t *testing.T) {
	for _, known := range []int{0, 5, len(story())} {
		h, m := teller(t, known)
		one, two := h.State(), h.State()
		want := stateCopy(two)
		all, _ := h.Since(h.Floor())
		other, _ := h.Since(h.Floor())
		first, second, third := slices.Collect(all), slices.Collect(all), slices.Collect(other)
		spoilState(one)
		spoilEvents(first)
		if !state.Same(two, want) {
			t.Fatalf("another state became %+v", two)
		}
		areEvents(t, "the second time", second, story()[known:])
		areEvents(t, "of another iterator", third, story()[known:])
		areEvents(t, "the third time", slices.Collect(all), story()[known:])
		is(t, "behind a change of the answers", h, m)
	}
}

// Rule 4: an event may be changed by the consumer while the others are still to come.
func TestEventsAreSpoiltWhileTold(t *testing.T) {
	h, m := teller(t, 0)
	all, _ := h.Since(api.Vec{})
	for range 2 {
		at := 0
		for e := range all {
			areEvents(t, "an event", []api.Event{e}, story()[at:at+1])
			spoilEvents([]api.Event{e})
			at++
		}
	}
	is(t, "behind it", h, m)
}

// Rule 4: what lies behind the ends of lists is neither read nor written.
func TestNothingBehindTheEnds(t *testing.T) {
	l := story()
	behind := api.Event{ID: id(6, 1), Kind: api.KindSeat, Ward: 1}
	log := append(copiesOf(l), behind)[:len(l)]
	for i := range log {
		log[i].Gone = append(slices.Clone(log[i].Gone), id(1, 1), id(1, 2))[:len(l[i].Gone)]
		log[i].Base = append(slices.Clone(log[i].Base), id(1, 1), id(1, 2))[:len(l[i].Base)]
	}
	h, m := resumed(t, "with room behind the ends", api.State{}, api.Vec{}, log)
	if !state.Same(h.State(), comesTo(t, story()...)) {
		t.Errorf("%+v", h.State())
	}
	added, n := started(t)
	adds(t, added, n, log...)
	is(t, "with room behind the ends", added, n)
	if !event.Same(log[:len(l)+1][len(l)], behind) {
		t.Error("something behind the end of the log was written")
	}
	for i, e := range log {
		for _, list := range [][]api.ID{e.Gone, e.Base} {
			if end := list[len(list) : len(list)+2]; !slices.Equal(end, ids(id(1, 1), id(1, 2))) {
				t.Errorf("%v: %v lies behind an end", l[i].ID, end)
			}
		}
	}
	s := comesTo(t, l...)
	whole := stateCopy(s)
	whole.Objects = append(whole.Objects, api.Object{ID: id(6, 9), Name: "behind"})
	whole.Entries = append(whole.Entries, api.Entry{ID: id(6, 9), Name: "behind"})
	part := whole
	part.Objects, part.Entries = whole.Objects[:len(s.Objects)], whole.Entries[:len(s.Entries)]
	before := stateCopy(whole)
	if err := h.Swap(part); err != api.OK || !state.Same(h.State(), s) || !state.Same(history.Start(part).State(), s) {
		t.Errorf("Swap: %d, %+v", err, h.State())
	}
	adds(t, h, m, rights()[0])
	if !state.Same(whole, before) {
		t.Errorf("%+v", whole)
	}
}

// shares tells whether a text of one list lies where one of another list does.
func shares(a, b []string) bool {
	return slices.ContainsFunc(a, func(s string) bool {
		return slices.ContainsFunc(b, func(other string) bool {
			from, to := uintptr(unsafe.Pointer(unsafe.StringData(s))), uintptr(unsafe.Pointer(unsafe.StringData(other)))
			return len(s) > 0 && len(other) > 0 && from < to+uintptr(len(other)) && to < from+uintptr(len(s))
		})
	})
}

// textsOf are all texts of events.
func textsOf(l []api.Event) []string {
	var texts []string
	for _, e := range l {
		texts = append(texts, e.Name, e.Data)
	}
	return texts
}

// textsIn are all texts of a state.
func textsIn(s api.State) []string {
	var l []string
	for _, o := range s.Objects {
		l = append(l, o.Name)
		for _, v := range o.Versions {
			l = append(l, v.Data)
		}
	}
	for _, x := range s.Entries {
		l = append(l, x.Name)
	}
	return l
}

// Rule 4: names and bytes too, which nobody can change, lie in memory of their own, in what is handed in, in what is kept and in each answer.
func TestTextsShareNothing(t *testing.T) {
	for _, known := range []int{0, 5, len(story())} {
		log := full()
		s := comesTo(t, log[:known]...)
		given := append(textsOf(log), textsIn(s)...)
		h, err := history.Resume(s, api.Vec{}, log)
		if err != api.OK {
			t.Fatal(err)
		}
		other := history.Start(s)
		for _, e := range log[known:] {
			other.Add(e)
		}
		swapped := history.Start(s)
		swapped.Swap(s)
		for _, x := range []*history.History{h, other, swapped} {
			all, _ := x.Since(x.Floor())
			lists := [][]string{given, textsIn(x.State()), textsIn(x.State()), textsOf(slices.Collect(all)), textsOf(slices.Collect(all)), textsOf(since(t, x, x.Floor()))}
			for i, a := range lists {
				for _, b := range lists[i+1:] {
					if shares(a, b) {
						t.Errorf("texts share memory: %q, %q", a, b)
					}
				}
			}
		}
	}
}

// P2: histories keep nothing of each other, and questions change nothing.
func TestNothingIsKept(t *testing.T) {
	h, m := teller(t, 3)
	other, n := several(t)
	for i, e := range rights() {
		want := m.add(e)
		if err := h.Add(e); err != want {
			t.Fatalf("Add of %+v: %d, not %d", e, err, want)
		}
		if i == 4 {
			trims(t, other, n, api.Vec{1, 1})
		}
		for range 2 {
			is(t, "this one", h, m)
			is(t, "the other one", other, n)
		}
	}
	empty, none := started(t)
	is(t, "a third one", empty, none)
}

// P2: two histories of the same calls answer the same, and a copy of a state that was answered is a start of its own.
func TestSameCalls(t *testing.T) {
	one, m := teller(t, 4)
	two, _ := teller(t, 4)
	third, own := history.Start(one.State()), begun(one.State())
	adds(t, third, own, on(6, api.Event{Kind: api.KindSeat, Ward: 1}))
	is(t, "one", one, m)
	is(t, "two", two, m)
	is(t, "the third", third, own)
}

// Rule 7: an iterator that yields nothing isn't nil, and ends.
func TestEmptyIterators(t *testing.T) {
	h, _ := started(t)
	full, _ := teller(t, 0)
	for _, x := range []*history.History{h, full} {
		for _, v := range []api.Vec{x.Known(), {9, 9, 9, 9, 9, 9, 9, 9}} {
			var all iter.Seq[api.Event]
			all, err := x.Since(v)
			if all == nil || err != api.OK {
				t.Fatalf("Since(%v): nil is %t, %d", v, all == nil, err)
			}
			for range 3 {
				all(func(e api.Event) bool {
					t.Errorf("%+v", e)
					return true
				})
			}
		}
	}
}
