package history_test

import (
	"iter"
	"math"
	"slices"
	"testing"

	"wardship/api"
	"wardship/event"
	"wardship/history"
	"wardship/state"
)

// small are all vectors of the first two replicas and the last one with numbers below n + 1.
func small(n uint32) iter.Seq[api.Vec] {
	return func(yield func(api.Vec) bool) {
		for a := range n + 1 {
			for b := range n + 1 {
				for c := range n + 1 {
					if !yield(api.Vec{a, b, 7: c}) {
						return
					}
				}
			}
		}
	}
}

// seated is a seat that knew nothing but its replica's earlier events.
func seated(number api.ID) api.Event {
	e := api.Event{ID: number, Kind: api.KindSeat, Ward: 1 + int(number.Seq)%4}
	e.Dep[number.Rep-1] = number.Seq - 1
	return e
}

// several is a history of three replicas' seats, mixed.
func several(t *testing.T) (*history.History, *model) {
	t.Helper()
	h, m := started(t)
	for _, number := range mixed() {
		adds(t, h, m, seated(number))
	}
	return h, m
}

// mixed is the order in which several has events: neither by their replicas nor by their numbers.
func mixed() []api.ID {
	return ids(id(8, 1), id(1, 1), id(1, 2), id(2, 1), id(8, 2), id(2, 2), id(8, 3), id(2, 3), id(1, 3))
}

// P16.1: for each vector, with each floor, what is told, in the order in which it was added.
func TestSinceAll(t *testing.T) {
	for floor := range small(3) {
		h, m := several(t)
		trims(t, h, m, floor)
		for v := range small(4) {
			if !atMost(floor, v) {
				isOld(t, h, v)
				continue
			}
			var want []api.ID
			for _, number := range mixed() {
				if number.Seq > v[number.Rep-1] {
					want = append(want, number)
				}
			}
			areNumbers(t, "Since", since(t, h, v), want...)
		}
	}
}

// P16.1: the zero vector, the floor, what is known; a vector that is ahead at some replicas, whatever it says of others.
func TestSince(t *testing.T) {
	h, m := several(t)
	areNumbers(t, "the zero vector", since(t, h, api.Vec{}), mixed()...)
	areNumbers(t, "what is known", since(t, h, api.Vec{3, 3, 7: 3}))
	areNumbers(t, "ahead at all", since(t, h, api.Vec{9, 9, 9, 9, 9, 9, 9, 9}))
	areNumbers(t, "ahead at two", since(t, h, api.Vec{4, 1, 7: 1 << 20}), id(2, 2), id(2, 3))
	areNumbers(t, "ahead at one that did nothing", since(t, h, api.Vec{3, 3, 5, 0, 0, 0, 0, 2}), id(8, 3))
	areNumbers(t, "ahead as far as can be", since(t, h, api.Vec{3, 2, math.MaxUint32, 0, 0, 0, 0, math.MaxUint32}), id(2, 3))
	trims(t, h, m, api.Vec{1, 2, 7: 1})
	areNumbers(t, "the floor", since(t, h, h.Floor()), id(1, 2), id(8, 2), id(8, 3), id(2, 3), id(1, 3))
	areNumbers(t, "ahead of the floor", since(t, h, api.Vec{2, 9, 7: 1}), id(8, 2), id(8, 3), id(1, 3))
	for _, v := range []api.Vec{{}, {1, 1, 7: 1}, {0, 2, 7: 1}, {1, 2}, {9, 9, 9, 9, 9, 9, 9}, {1, 1, 9, 9, 9, 9, 9, 9}} {
		isOld(t, h, v)
	}
}

// P16.1: what a consumer that stops at some event has got; it is asked for nothing any more, and can begin anew.
func TestSinceStops(t *testing.T) {
	h, _ := several(t)
	all, _ := h.Since(api.Vec{})
	for most := range len(mixed()) + 2 {
		var got []api.Event
		stopped := false
		all(func(e api.Event) bool {
			if stopped {
				t.Error("asked again behind a stop")
			}
			got = append(got, e)
			stopped = len(got) >= most
			return !stopped
		})
		areNumbers(t, "until the stop", got, mixed()[:min(len(mixed()), max(most, 1))]...)
	}
	for e := range all {
		if e.ID != mixed()[0] {
			t.Errorf("the first is %v", e.ID)
		}
		break
	}
	areNumbers(t, "within itself", within(all), mixed()...)
}

// within ranges over an iterator while it is ranged over, and is what the outer one yields.
func within(all iter.Seq[api.Event]) []api.Event {
	var l []api.Event
	for e := range all {
		for range all {
			if len(l)%2 == 0 {
				break
			}
		}
		l = append(l, e)
	}
	return l
}

// acts are what changes a history: each leads from the story to another one.
func acts() map[string]func(h *history.History) api.Errno {
	return map[string]func(h *history.History) api.Errno{
		"an Add":            func(h *history.History) api.Errno { return h.Add(on(5, api.Event{Kind: api.KindRetire})) },
		"a Trim":            func(h *history.History) api.Errno { return h.Trim(api.Vec{3, 1}) },
		"a Trim of nothing": func(h *history.History) api.Errno { return h.Trim(h.Floor()) },
		"a Trim of all":     func(h *history.History) api.Errno { return h.Trim(h.Known()) },
		"a Swap":            func(h *history.History) api.Errno { return h.Swap(api.State{Known: storyKnown()}) },
		"a Trim of all and Adds": func(h *history.History) api.Errno {
			if err := h.Trim(h.Known()); err != api.OK {
				return err
			}
			for seq := range uint32(40) {
				if err := h.Add(seated(id(6, seq+1))); err != api.OK {
					return err
				}
			}
			return api.OK
		},
	}
}

// P16.1: an iterator that was asked for ahead of a change yields the events as they were, whether it is ranged over behind the change, or while it comes.
func TestSinceAsItWas(t *testing.T) {
	for name, act := range acts() {
		for at := -1; at <= len(story()); at++ {
			h, _ := teller(t, 0)
			all, _ := h.Since(api.Vec{2})
			want := since(t, h, api.Vec{2})
			if at < 0 {
				if err := act(h); err != api.OK {
					t.Fatalf("%s: %d", name, err)
				}
			}
			var got []api.Event
			for e := range all {
				if len(got) == at {
					if err := act(h); err != api.OK {
						t.Fatalf("%s: %d", name, err)
					}
				}
				got = append(got, e)
			}
			areEvents(t, name, got, want)
			areEvents(t, name+", once more", slices.Collect(all), want)
		}
	}
}

// P16.1: several iterators, asked for at different times, each yield what was there at theirs.
func TestSinceAtTimes(t *testing.T) {
	h, m := started(t)
	var asked []iter.Seq[api.Event]
	for i, e := range story() {
		all, err := h.Since(h.Floor())
		if err != api.OK {
			t.Fatal(err)
		}
		asked = append(asked, all)
		adds(t, h, m, e)
		if i == 6 {
			trims(t, h, m, comesTo(t, story()[:4]...).Known)
		}
	}
	for i, all := range asked {
		from := 0
		if i > 6 {
			from = 4
		}
		areEvents(t, "at its time", slices.Collect(all), story()[from:i])
	}
}

// P16.1: what an iterator yields goes on from one event to the next while two are ranged over in turn.
func TestSinceIsOnlyAsked(t *testing.T) {
	h, m := teller(t, 3)
	one, _ := h.Since(h.Floor())
	at := 0
	for e := range one {
		other, err := h.Since(h.Floor())
		if err != api.OK || !event.Same(e, story()[3+at]) {
			t.Fatalf("%d: %+v, %d", at, e, err)
		}
		for range other {
			break
		}
		at++
	}
	if at != len(story())-3 || !state.Same(h.State(), m.s) {
		t.Errorf("%d events", at)
	}
	is(t, "behind the telling", h, m)
}
