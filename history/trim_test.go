package history_test

import (
	"math"
	"slices"
	"testing"

	"wardship/api"
	"wardship/history"
	"wardship/state"
)

// refusesTrim checks that a floor is refused, and that nothing changes by it.
func refusesTrim(t *testing.T, h *history.History, m *model, v api.Vec, want api.Errno) {
	t.Helper()
	if err := m.trim(v); err != want {
		t.Fatalf("Trim(%v): the model says %d, not %d", v, err, want)
	}
	if err := h.Trim(v); err != want {
		t.Fatalf("Trim(%v) behind %v: %d, not %d", v, h.Floor(), err, want)
	}
	is(t, "behind a Trim that was refused", h, m)
}

// P16.2: from each floor to each vector: events that it contains are told no more, the others in their order; nothing else changes.
func TestTrimAll(t *testing.T) {
	for floor := range small(2) {
		for v := range small(4) {
			h, m := several(t)
			trims(t, h, m, floor)
			switch {
			case !atMost(floor, v):
				refusesTrim(t, h, m, v, api.ErrOld)
			case !atMost(v, api.Vec{3, 3, 7: 3}):
				refusesTrim(t, h, m, v, api.ErrGap)
			default:
				was := h.State()
				trims(t, h, m, v)
				left := slices.DeleteFunc(mixed(), func(number api.ID) bool { return inside(v, number) })
				areNumbers(t, "what is left", since(t, h, v), left...)
				if h.Len() != len(left) || h.Floor() != v || h.Known() != (api.Vec{3, 3, 7: 3}) || !state.Same(h.State(), was) {
					t.Errorf("%d events, the floor %v, %v is known", h.Len(), h.Floor(), h.Known())
				}
			}
		}
	}
}

// P16.2: ErrOld and ErrGap, alone and where the other one would hold, too, of one replica and of the same; the floor itself is fine.
func TestTrimRefuses(t *testing.T) {
	h, m := several(t)
	floor := api.Vec{1, 2, 7: 3}
	trims(t, h, m, floor)
	for _, v := range []api.Vec{{}, {0, 2, 7: 3}, {1, 1, 7: 3}, {1, 2, 7: 2}, {3, 3}, {3, 3, 7: 0}} {
		refusesTrim(t, h, m, v, api.ErrOld)
	}
	for _, v := range []api.Vec{{4, 2, 7: 3}, {1, 4, 7: 3}, {1, 2, 7: 4}, {1, 2, 1, 7: 3}, {1, 2, 6: 1, 7: 3}, {3, 3, 7: math.MaxUint32}, {3, 3, math.MaxUint32, 7: 3}} {
		refusesTrim(t, h, m, v, api.ErrGap)
	}
	for _, v := range []api.Vec{{4, 1, 7: 3}, {0, 4, 7: 3}, {0, 2, 7: 4}, {9, 9, 9, 9, 9, 9, 9, 2}, {0, 2, math.MaxUint32, 7: 3}, {6: 1}} {
		refusesTrim(t, h, m, v, api.ErrOld)
	}
	for range 3 {
		trims(t, h, m, floor)
	}
	areNumbers(t, "the floor itself", since(t, h, floor), id(1, 2), id(2, 3), id(1, 3))
}

// P16.2: floor by floor, with each event between; behind all of it nothing can be told, but what comes then.
func TestTrimStepByStep(t *testing.T) {
	h, m := teller(t, 0)
	for i := range story() {
		trims(t, h, m, comesTo(t, story()[:i+1]...).Known)
		areEvents(t, "what is left", since(t, h, h.Floor()), story()[i+1:])
	}
	if h.Len() != 0 || h.Floor() != h.Known() {
		t.Errorf("%d events, the floor %v", h.Len(), h.Floor())
	}
	for _, e := range rights() {
		if want := m.add(e); h.Add(e) != want {
			t.Errorf("Add of %+v isn't %d", e, want)
		}
	}
	is(t, "with more events", h, m)
	trims(t, h, m, storyKnown())
	if h.Len() == 0 {
		t.Error("what came behind the floor is gone")
	}
}

// P16.2: a floor needn't be what someone could know: events can be told though what they depend on is told no more, and the other way round.
func TestTrimAnyVector(t *testing.T) {
	h, m := teller(t, 0)
	trims(t, h, m, api.Vec{2: 2})
	areNumbers(t, "without the third replica", since(t, h, h.Floor()), id(1, 1), id(1, 2), id(4, 1), id(1, 3), id(2, 1), id(2, 2), id(1, 4), id(8, 1), id(1, 5), id(2, 3), id(4, 2))
	trims(t, h, m, api.Vec{5, 0, 2, 1})
	areNumbers(t, "without the first one, too", since(t, h, h.Floor()), id(2, 1), id(2, 2), id(8, 1), id(2, 3), id(4, 2))
}

// others are states that have the same Known as the story, and other parts.
func others(t *testing.T) []api.State {
	s := comesTo(t, story()...)
	l := []api.State{s, {Known: s.Known}, state.Clone(s), state.Clone(s), state.Clone(s), state.Clone(s), state.Clone(s), state.Clone(s)}
	l[2].Objects = l[2].Objects[1:]
	l[3].Entries = l[3].Entries[:1]
	l[4].Wards = [8]int{1, 2, 3, 4, 1, 2, 3, 4}
	l[5].Retired = [8]bool{true, true}
	l[6].Objects[1].Versions, l[6].Objects[1].Name = []api.Version{{ID: id(1, 9), Data: "another one"}}, "other"
	l[7].Objects = append(l[7].Objects, api.Object{ID: id(3, 77), Dir: true, Seen: api.Vec{7: 9}})
	return l
}

// P16.2: a state with the same Known takes the state's place, whatever else it has; what can be told, and the floor, stay.
func TestSwap(t *testing.T) {
	for _, s := range others(t) {
		for _, known := range []int{0, 6, len(story())} {
			h, m := teller(t, known)
			if err, want := h.Swap(s), m.swap(s); err != api.OK || want != api.OK {
				t.Fatalf("Swap: %d, the model says %d", err, want)
			}
			is(t, "behind a Swap", h, m)
			if !state.Same(h.State(), s) || h.Len() != len(story())-known {
				t.Errorf("%d events, %+v", h.Len(), h.State())
			}
			for _, e := range rights() {
				if err, want := h.Add(e), m.add(e); err != want {
					t.Errorf("Add of %+v: %d, not %d", e, err, want)
				}
			}
			is(t, "behind more events", h, m)
			trims(t, h, m, storyKnown())
		}
	}
}

// P16.2: another Known is ErrArg, by one event more or less of any replica, also of a state that is otherwise the same, and nothing changes.
func TestSwapRefuses(t *testing.T) {
	h, m := teller(t, 4)
	for _, s := range append(others(t), api.State{}) {
		for i := range api.MaxRep {
			for _, by := range []uint32{1, 1000, math.MaxUint32} {
				other := state.Clone(s)
				other.Known[i] += by
				if err, want := h.Swap(other), m.swap(other); err != api.ErrArg || want != api.ErrArg {
					t.Errorf("Swap to %v: %d, the model says %d", other.Known, err, want)
				}
				is(t, "behind a Swap that was refused", h, m)
			}
		}
	}
	empty, _ := started(t)
	if err := empty.Swap(comesTo(t, story()...)); err != api.ErrArg {
		t.Errorf("Swap to a state that knows more: %d", err)
	}
	if err := h.Swap(api.State{}); err != api.ErrArg {
		t.Errorf("Swap to the zero state: %d", err)
	}
	if err := h.Swap(api.State{Known: h.Floor()}); err != api.ErrArg {
		t.Errorf("Swap to a state of the floor: %d", err)
	}
}

// P16.2: events that are added behind a Swap are applied to the state that took the place.
func TestAddBehindASwap(t *testing.T) {
	h, m := teller(t, 0)
	s := api.State{Known: storyKnown()}
	if err, want := h.Swap(s), m.swap(s); err != want {
		t.Fatal(err)
	}
	if err := h.Add(on(2, api.Event{Kind: api.KindFile, Dir: id(1, 1), Name: "new"})); err != api.ErrNone {
		t.Errorf("Add in a directory that was swept: %d", err)
	}
	adds(t, h, m, on(2, api.Event{Kind: api.KindFile, Name: "new"}), on(8, api.Event{Kind: api.KindSeat, Ward: 1}))
	is(t, "behind a Swap and Adds", h, m)
}

// P16.2: a nil history is refused whatever it is asked, and answers zero values.
func TestNil(t *testing.T) {
	var h *history.History
	s := comesTo(t, story()...)
	for _, v := range []api.Vec{{}, storyKnown(), {9, 9, 9, 9, 9, 9, 9, 9}} {
		if all, err := h.Since(v); all != nil || err != api.ErrState {
			t.Errorf("Since: nil is %t, %d", all == nil, err)
		}
		if err := h.Trim(v); err != api.ErrState {
			t.Errorf("Trim: %d", err)
		}
	}
	for _, e := range append(story(), api.Event{}) {
		if err := h.Add(e); err != api.ErrState {
			t.Errorf("Add: %d", err)
		}
	}
	for _, x := range []api.State{{}, s} {
		if err := h.Swap(x); err != api.ErrState {
			t.Errorf("Swap: %d", err)
		}
	}
	if !state.Same(h.State(), api.State{}) || h.Known() != (api.Vec{}) || h.Floor() != (api.Vec{}) || h.Len() != 0 {
		t.Errorf("%+v, %v, %v, %d", h.State(), h.Known(), h.Floor(), h.Len())
	}
}
