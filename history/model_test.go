package history_test

import (
	"iter"
	"math"
	"slices"
	"testing"

	"wardship/api"
	"wardship/event"
	"wardship/history"
	"wardship/state"
)

// id is an event's number.
func id(rep int, seq uint32) api.ID { return api.ID{Rep: rep, Seq: seq} }

// ids is a list of numbers.
func ids(l ...api.ID) []api.ID { return l }

// inside tells whether v contains x, told anew.
func inside(v api.Vec, x api.ID) bool {
	for i, n := range v {
		if x.Rep == i+1 && x.Seq != 0 && x.Seq <= n {
			return true
		}
	}
	return false
}

// atMost tells whether each number of a is at most that of b, told anew.
func atMost(a, b api.Vec) bool {
	for i, n := range a {
		if n > b[i] {
			return false
		}
	}
	return true
}

// model is a history, told anew: every event that it was handed is kept, and which of them can be told is worked out each time.
type model struct {
	s     api.State
	floor api.Vec
	added []api.Event
}

// begun is what Start makes of a state.
func begun(s api.State) *model { return &model{s: state.Clone(s), floor: s.Known} }

// told are the events that can be told and that v doesn't contain.
func (m *model) told(v api.Vec) []api.Event {
	var l []api.Event
	for _, e := range m.added {
		if !inside(m.floor, e.ID) && !inside(v, e.ID) {
			l = append(l, copyOf(e))
		}
	}
	return l
}

// expectResume is what the chapter says of Resume.
func expectResume(s api.State, floor api.Vec, log []api.Event) (*model, api.Errno) {
	m := &model{s: state.Clone(s), floor: floor}
	for i, e := range log {
		switch {
		case inside(floor, e.ID), slices.ContainsFunc(log[:i], func(x api.Event) bool { return x.ID == e.ID }):
			return nil, api.ErrForm
		case !inside(s.Known, e.ID):
			next, err := state.Apply(m.s, e)
			if err != api.OK {
				return nil, err
			}
			m.s = next
		}
		m.added = append(m.added, copyOf(e))
	}
	if !atMost(floor, m.s.Known) {
		return nil, api.ErrGap
	}
	return m, api.OK
}

// add is what the chapter says of Add.
func (m *model) add(e api.Event) api.Errno {
	next, err := state.Apply(m.s, e)
	if err == api.OK {
		m.s, m.added = next, append(m.added, copyOf(e))
	}
	return err
}

// trim is what the chapter says of Trim.
func (m *model) trim(v api.Vec) api.Errno {
	switch {
	case !atMost(m.floor, v):
		return api.ErrOld
	case !atMost(v, m.s.Known):
		return api.ErrGap
	}
	m.floor = v
	return api.OK
}

// swap is what the chapter says of Swap.
func (m *model) swap(s api.State) api.Errno {
	if s.Known != m.s.Known {
		return api.ErrArg
	}
	m.s = state.Clone(s)
	return api.OK
}

// copyOf is an event with lists of its own.
func copyOf(e api.Event) api.Event {
	e.Gone, e.Base = slices.Clone(e.Gone), slices.Clone(e.Base)
	return e
}

// copiesOf are events with lists of their own.
func copiesOf(l []api.Event) []api.Event {
	var own []api.Event
	for _, e := range l {
		own = append(own, copyOf(e))
	}
	return own
}

// areEvents checks a list of events.
func areEvents(t *testing.T, what string, got, want []api.Event) {
	t.Helper()
	if !slices.EqualFunc(got, want, event.Same) {
		t.Fatalf("%s:\n%+v, not\n%+v", what, got, want)
	}
}

// since is what there is to be told to those who know v, the same each time.
func since(t *testing.T, h *history.History, v api.Vec) []api.Event {
	t.Helper()
	all, err := h.Since(v)
	if err != api.OK || all == nil {
		t.Fatalf("Since(%v): nil is %t, %d", v, all == nil, err)
	}
	first := slices.Collect(all)
	areEvents(t, "the second time", slices.Collect(all), first)
	return first
}

// isOld checks that there is no telling those who know v, of the floor's events.
func isOld(t *testing.T, h *history.History, v api.Vec) {
	t.Helper()
	if all, err := h.Since(v); all != nil || err != api.ErrOld {
		t.Fatalf("Since(%v): nil is %t, %d, behind the floor %v", v, all == nil, err, h.Floor())
	}
}

// vectors are vectors near a history's floor and near what is known: both, the zero one, the ends of the numbers, and those with a number more or less.
func vectors(floor, known api.Vec) iter.Seq[api.Vec] {
	return func(yield func(api.Vec) bool) {
		far := api.Vec{}
		for i := range far {
			far[i] = math.MaxUint32
		}
		for _, v := range []api.Vec{{}, floor, known, far} {
			if !yield(v) {
				return
			}
			for i := range v {
				for _, by := range []uint32{1, math.MaxUint32} {
					w := v
					w[i] += by
					if !yield(w) {
						return
					}
				}
			}
		}
	}
}

// is checks all that a history answers.
func is(t *testing.T, what string, h *history.History, m *model) {
	t.Helper()
	if h == nil {
		t.Fatalf("%s: no history", what)
	}
	if got := h.State(); !state.Same(got, m.s) {
		t.Fatalf("%s: the state is\n%+v, not\n%+v", what, got, m.s)
	}
	all := m.told(api.Vec{})
	if h.Known() != m.s.Known || h.Floor() != m.floor || h.Len() != len(all) {
		t.Fatalf("%s: %v is known, the floor %v, %d can be told; not %v, %v, %d", what, h.Known(), h.Floor(), h.Len(), m.s.Known, m.floor, len(all))
	}
	areEvents(t, what+": all that can be told", since(t, h, m.floor), all)
	for v := range vectors(m.floor, m.s.Known) {
		if atMost(m.floor, v) {
			areEvents(t, what+": what can be told", since(t, h, v), m.told(v))
		} else {
			isOld(t, h, v)
		}
	}
}

// refuses checks that Resume refuses what it is handed, and how.
func refuses(t *testing.T, what string, s api.State, floor api.Vec, log []api.Event, want api.Errno) {
	t.Helper()
	if m, err := expectResume(s, floor, log); m != nil || err != want {
		t.Fatalf("%s: the model says %d, not %d", what, err, want)
	}
	if h, err := history.Resume(s, floor, log); h != nil || err != want {
		t.Fatalf("%s: nil is %t, %d, not %d", what, h == nil, err, want)
	}
}

// resumed is a history that Resume makes, and its model.
func resumed(t *testing.T, what string, s api.State, floor api.Vec, log []api.Event) (*history.History, *model) {
	t.Helper()
	m, err := expectResume(s, floor, log)
	if err != api.OK {
		t.Fatalf("%s: the model says %d", what, err)
	}
	h, err := history.Resume(s, floor, log)
	if err != api.OK {
		t.Fatalf("%s: %d", what, err)
	}
	is(t, what, h, m)
	return h, m
}

// adds adds events to a history and to its model, without an error.
func adds(t *testing.T, h *history.History, m *model, l ...api.Event) {
	t.Helper()
	for _, e := range l {
		if err, want := h.Add(e), m.add(e); err != want || err != api.OK {
			t.Fatalf("Add of %+v: %d, the model says %d", e, err, want)
		}
	}
}

// trims sets the floor of a history and of its model, without an error.
func trims(t *testing.T, h *history.History, m *model, v api.Vec) {
	t.Helper()
	if err, want := h.Trim(v), m.trim(v); err != want || err != api.OK {
		t.Fatalf("Trim(%v): %d, the model says %d", v, err, want)
	}
	is(t, "behind a Trim", h, m)
}
