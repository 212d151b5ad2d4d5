package history_test

import (
	"testing"

	"wardship/api"
	"wardship/history"
	"wardship/state"
)

// P16.1: a history that starts with the zero state knows nothing, and one that starts with another one has it; all of that is the floor, and none of it can be told.
func TestStart(t *testing.T) {
	h, _ := started(t)
	if h.Known() != (api.Vec{}) || h.Floor() != (api.Vec{}) || h.Len() != 0 || !state.Same(h.State(), api.State{}) {
		t.Errorf("%v is known, the floor %v, %d events", h.Known(), h.Floor(), h.Len())
	}
	areNumbers(t, "a history that knows nothing", since(t, h, api.Vec{}))
	for n := range len(story()) + 1 {
		h, _ := started(t, story()[:n]...)
		want := comesTo(t, story()[:n]...)
		if h.Known() != want.Known || h.Floor() != want.Known || h.Len() != 0 || !state.Same(h.State(), want) {
			t.Errorf("%d events: %v is known, the floor %v, %d can be told", n, h.Known(), h.Floor(), h.Len())
		}
		areNumbers(t, "a history at its start", since(t, h, want.Known))
		if n > 0 {
			isOld(t, h, api.Vec{})
		}
	}
}

// P16.1: what is added to a history that started with something is all that can be told.
func TestAddBehindAStart(t *testing.T) {
	for n := range len(story()) + 1 {
		h, _ := teller(t, n)
		areEvents(t, "what was added", since(t, h, h.Floor()), story()[n:])
		if h.Len() != len(story())-n || h.Known() != storyKnown() || h.Floor() != comesTo(t, story()[:n]...).Known {
			t.Errorf("%d events: %v is known, the floor %v, %d can be told", n, h.Known(), h.Floor(), h.Len())
		}
	}
}

// P16.1: an event of each kind is applied, and can be told as the last one.
func TestAdd(t *testing.T) {
	for _, e := range rights() {
		for _, known := range []int{0, 5, len(story())} {
			h, m := teller(t, known)
			adds(t, h, m, e)
			is(t, "with an event more", h, m)
			all := since(t, h, h.Floor())
			areEvents(t, "the last event", all[len(all)-1:], []api.Event{e})
			if want := comesTo(t, append(story(), e)...); !state.Same(h.State(), want) {
				t.Errorf("%+v comes to %+v, not %+v", e, h.State(), want)
			}
		}
	}
}

// P16.1: each error of Apply, by which nothing changes; events that are known are old, also those that the floor contains.
func TestAddRefuses(t *testing.T) {
	for _, known := range []int{0, 5, len(story())} {
		h, m := teller(t, known)
		all := wrongs()
		for _, e := range story() {
			all = append(all, wrong{"a known event", e, api.ErrOld}, wrong{"another event of its number", api.Event{ID: e.ID, Dep: e.Dep, Kind: api.KindSeat, Ward: 4}, api.ErrOld})
		}
		for _, w := range all {
			if err, want := h.Add(w.e), m.add(w.e); err != w.err || want != w.err {
				t.Errorf("%s: %d, not %d; the model says %d", w.name, err, w.err, want)
			}
			is(t, "behind "+w.name, h, m)
		}
		for _, e := range rights() {
			if err, want := h.Add(e), m.add(e); err != want {
				t.Errorf("%+v: %d, not %d", e, err, want)
			}
		}
		is(t, "behind all", h, m)
	}
}

// P16.1: ErrLong, which comes in a state alone that no events come to.
func TestAddToALongFile(t *testing.T) {
	s, e := longState(t)
	h, m := history.Start(s), begun(s)
	if err := h.Add(e); err != api.ErrLong {
		t.Errorf("Add: %d", err)
	}
	is(t, "behind ErrLong", h, m)
}

// P16.1: an event that was refused because something was missing is taken once that is there.
func TestAddLate(t *testing.T) {
	h, m := started(t)
	l := story()
	for i := len(l) - 1; i > 0; i-- {
		want := m.add(l[i])
		if err := h.Add(l[i]); err != want {
			t.Errorf("Add of %v: %d, not %d", l[i].ID, err, want)
		}
	}
	areNumbers(t, "what has no gap ahead of it", since(t, h, api.Vec{}), id(8, 1), id(4, 1))
	for _, e := range l {
		if err, want := h.Add(e), m.add(e); err != want {
			t.Errorf("Add of %v: %d, not %d", e.ID, err, want)
		}
	}
	is(t, "behind all", h, m)
	if !state.Same(h.State(), comesTo(t, story()...)) {
		t.Errorf("%+v", h.State())
	}
	areNumbers(t, "in the order in which they were added", since(t, h, api.Vec{}),
		id(8, 1), id(4, 1), id(1, 1), id(1, 2), id(1, 3), id(2, 1), id(2, 2), id(1, 4), id(3, 1), id(1, 5), id(2, 3), id(3, 2), id(4, 2))
}
