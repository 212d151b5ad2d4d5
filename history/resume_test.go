package history_test

import (
	"fmt"
	"math"
	"slices"
	"testing"

	"wardship/api"
	"wardship/history"
	"wardship/state"
)

// P16.1: an empty log: nothing can be told, with each floor that is at most what is known.
func TestResumeWithoutLog(t *testing.T) {
	for n := range len(story()) + 1 {
		s := comesTo(t, story()[:n]...)
		for _, floor := range []api.Vec{{}, s.Known, comesTo(t, story()[:n/2]...).Known} {
			for _, log := range [][]api.Event{nil, {}} {
				h, _ := resumed(t, "without a log", s, floor, log)
				if h.Floor() != floor || h.Len() != 0 || !state.Same(h.State(), s) {
					t.Errorf("the floor %v, %d events", h.Floor(), h.Len())
				}
			}
		}
	}
}

// P16.1: the floor, the log and the state at each point of the story: what the state knows isn't applied again, the rest is; all of the log can be told.
func TestResume(t *testing.T) {
	want := comesTo(t, story()...)
	for from := range len(story()) + 1 {
		floor := comesTo(t, story()[:from]...).Known
		for known := from; known <= len(story()); known++ {
			h, m := resumed(t, "the story", comesTo(t, story()[:known]...), floor, story()[from:])
			if !state.Same(h.State(), want) || h.Floor() != floor || h.Len() != len(story())-from {
				t.Errorf("%d, %d: the floor %v, %d events, %+v", from, known, h.Floor(), h.Len(), h.State())
			}
			areEvents(t, "what can be told", since(t, h, floor), story()[from:])
			adds(t, h, m, on(5, api.Event{Kind: api.KindSeat, Ward: 1}))
			is(t, "with an event more", h, m)
		}
	}
}

// P16.1: a history that was asked for all it has, and that is resumed with that, is the same again.
func TestResumeOfAHistory(t *testing.T) {
	for known := range len(story()) + 1 {
		h, m := teller(t, known)
		for _, to := range []int{known, (known + len(story())) / 2, len(story())} {
			trims(t, h, m, comesTo(t, story()[:to]...).Known)
			again, err := history.Resume(h.State(), h.Floor(), since(t, h, h.Floor()))
			if err != api.OK {
				t.Fatalf("Resume: %d", err)
			}
			is(t, "resumed", again, m)
		}
	}
}

// P16.1: an event that the state knows can be told as it is handed in, whatever it says, as it isn't applied; the order is that of the log.
func TestResumeOfKnownEvents(t *testing.T) {
	s := comesTo(t, story()...)
	log := []api.Event{
		{ID: id(3, 2)},
		{ID: id(1, 5), Dep: api.Vec{4, 9}, Kind: api.KindRetire, Data: "odd"},
		{ID: id(8, 1), Kind: 77, Ward: -1},
		story()[0],
		{ID: id(2, 1), Dep: api.Vec{math.MaxUint32}, Kind: api.KindDrop, Gone: ids(id(9, 9), id(1, 1)), Base: ids(api.ID{})},
	}
	h, _ := resumed(t, "known events", s, api.Vec{}, log)
	areEvents(t, "known events", since(t, h, api.Vec{}), log)
	if !state.Same(h.State(), s) {
		t.Errorf("%+v", h.State())
	}
	slices.Reverse(log)
	h, _ = resumed(t, "known events", s, api.Vec{}, log)
	areEvents(t, "known events", since(t, h, api.Vec{}), log)
}

// P16.1: events that the state knows and events that it doesn't, mixed in each way: each new one is applied on top of those ahead of it.
func TestResumeMixed(t *testing.T) {
	l := story()
	s := comesTo(t, l[:6]...)
	for _, order := range [][]int{{6, 0, 7, 3, 8, 1}, {2, 6, 7, 8}, {6, 7, 5, 4, 3, 9}, {12, 10, 8, 6, 9, 7, 11, 5}, {8, 12, 6}} {
		var log []api.Event
		want := story()[:6]
		for _, i := range order {
			log = append(log, l[i])
			if i >= 6 {
				want = append(want, l[i])
			}
		}
		h, _ := resumed(t, "mixed", s, api.Vec{}, log)
		areEvents(t, "mixed", since(t, h, api.Vec{}), log)
		if !state.Same(h.State(), comesTo(t, want...)) {
			t.Errorf("%v comes to %+v", order, h.State())
		}
	}
}

// P16.1: each error of Apply, of the first event and behind others, known and new ones; the first event that has an error decides.
func TestResumeRefuses(t *testing.T) {
	for _, w := range wrongs() {
		for known := range len(story()) + 1 {
			s, floor := comesTo(t, story()[:known]...), api.Vec{}
			refuses(t, w.name, s, floor, append(story(), w.e), w.err)
			refuses(t, w.name, s, floor, append(story(), w.e, story()[0]), w.err)
			refuses(t, w.name, s, floor, append(append(story(), w.e), wrongs()[0].e, wrongs()[6].e), w.err)
			refuses(t, w.name, s, s.Known, append(story()[known:], w.e), w.err)
		}
		s := comesTo(t, story()...)
		refuses(t, w.name, s, api.Vec{}, []api.Event{w.e}, w.err)
		refuses(t, w.name, s, s.Known, []api.Event{w.e, on(5, api.Event{Kind: api.KindRetire})}, w.err)
	}
	s, e := longState(t)
	refuses(t, "a long file", s, s.Known, []api.Event{e}, api.ErrLong)
	refuses(t, "a long file", s, api.Vec{}, append(story(), e, e), api.ErrLong)
}

// P16.1: an event ahead of what it depends on isn't applied, though it comes later in the log.
func TestResumeOutOfOrder(t *testing.T) {
	l := story()
	refuses(t, "out of order", api.State{}, api.Vec{}, []api.Event{l[1], l[0]}, api.ErrGap)
	refuses(t, "out of order", comesTo(t, l[:3]...), api.Vec{}, []api.Event{l[0], l[4], l[3]}, api.ErrGap)
	refuses(t, "without what is ahead", api.State{}, api.Vec{}, l[1:], api.ErrGap)
}

// P16.1: an event that the floor contains, alone or in the midst of others, known or not; also where Apply would refuse it.
func TestResumeBelowTheFloor(t *testing.T) {
	for from := 1; from <= len(story()); from++ {
		floor := comesTo(t, story()[:from]...).Known
		for known := range len(story()) + 1 {
			s := comesTo(t, story()[:known]...)
			for _, below := range story()[:from] {
				refuses(t, "below the floor", s, floor, []api.Event{below}, api.ErrForm)
				if known >= from {
					refuses(t, "behind others", s, floor, append(story()[from:], below), api.ErrForm)
				}
			}
		}
	}
	s := comesTo(t, story()...)
	for _, w := range append(wrongs(), wrong{"long", on(5, api.Event{Kind: api.KindRetire}), api.OK}) {
		if w.e.ID.Seq == 0 || w.e.ID.Rep > 8 {
			continue
		}
		floor := s.Known
		floor[w.e.ID.Rep-1] = w.e.ID.Seq
		refuses(t, w.name+", below the floor", s, floor, []api.Event{w.e}, api.ErrForm)
		refuses(t, w.name+", far below the floor", s, api.Vec{9, 9, 9, 9, 9, 9, 9, 9}, []api.Event{w.e}, api.ErrForm)
	}
	long, e := longState(t)
	refuses(t, "a long file, below the floor", long, api.Vec{4: 1}, []api.Event{e}, api.ErrForm)
}

// P16.1: an event whose number an earlier one has, whether that one was known or applied, right behind it or later, the same event or another one, valid or not.
func TestResumeTwice(t *testing.T) {
	l := story()
	for i, e := range l {
		others := []api.Event{e, {ID: e.ID}, {ID: e.ID, Dep: e.Dep, Kind: api.KindSeat, Ward: 1}, {ID: e.ID, Dep: api.Vec{9, 9, 9, 9}, Kind: api.KindRetire}}
		for known := range len(l) + 1 {
			s := comesTo(t, l[:known]...)
			for _, other := range others {
				refuses(t, "twice", s, api.Vec{}, append(story()[:i+1], other), api.ErrForm)
				refuses(t, "twice", s, api.Vec{}, append(story(), other), api.ErrForm)
				refuses(t, "twice, ahead of others", s, api.Vec{}, slices.Insert(story(), i+1, other), api.ErrForm)
			}
		}
	}
}

// P16.1: of two events that have an error the first one decides, whatever they are.
func TestResumeFirstError(t *testing.T) {
	s := comesTo(t, story()[:5]...)
	floor := comesTo(t, story()[:2]...).Known
	right := story()[2:]
	faults := []wrong{{"below the floor", story()[0], api.ErrForm}, {"twice", story()[7], api.ErrForm}}
	for _, w := range append(wrongs(), faults...) {
		for _, other := range append(wrongs(), faults...) {
			refuses(t, w.name+", "+other.name, s, floor, append(slices.Clone(right), w.e, other.e), w.err)
		}
	}
}

// P16.1: a floor that isn't at most what is known, by one event or by many, of any replica, with and without a log; an error of an event comes ahead of it.
func TestResumeGap(t *testing.T) {
	for known := range len(story()) + 1 {
		s := comesTo(t, story()[:known]...)
		for i := range api.MaxRep {
			for _, more := range []uint32{1, 2, math.MaxUint32 - s.Known[i]} {
				floor := s.Known
				floor[i] += more
				refuses(t, "a floor that is too far", s, floor, nil, api.ErrGap)
				only := api.Vec{}
				only[i] = floor[i]
				refuses(t, "a floor that is too far at one replica alone", s, only, nil, api.ErrGap)
				other := (i+1)%api.MaxRep + 1
				e := api.Event{ID: id(other, s.Known[other-1]+1), Dep: s.Known, Kind: api.KindSeat, Ward: 1}
				if s.Retired[other-1] {
					refuses(t, "an error of an event", s, floor, []api.Event{e}, api.ErrRetired)
				} else {
					refuses(t, "a floor that is too far, with a log", s, floor, []api.Event{e}, api.ErrGap)
				}
				refuses(t, "an error of an event", s, floor, []api.Event{{}}, api.ErrForm)
			}
		}
	}
}

// P16.1: a floor that would be at most what is known only by what the log adds contains what the log adds, which is ErrForm; so no floor gains by the log, whatever it is.
func TestResumeFloorByTheLog(t *testing.T) {
	for known := range len(story()) {
		s := comesTo(t, story()[:known]...)
		for to := known + 1; to <= len(story()); to++ {
			floor := comesTo(t, story()[:to]...).Known
			refuses(t, "a floor by the log", s, floor, story()[known:], api.ErrForm)
			refuses(t, "a floor by the log", s, floor, story()[known:to], api.ErrForm)
		}
	}
	for floor := range small(3) {
		for n := range 4 {
			var log []api.Event
			for seq := range uint32(n) {
				log = append(log, seated(id(1, seq+1)))
			}
			for known := range small(3) {
				h, err := history.Resume(api.State{Known: known}, floor, log)
				m, want := expectResume(api.State{Known: known}, floor, log)
				if err != want || err == api.OK && !atMost(floor, known) {
					t.Errorf("%v knows, the floor %v, %d events: %d, not %d", known, floor, n, err, want)
				}
				if err == api.OK {
					is(t, fmt.Sprintf("%v, %v, %d", known, floor, n), h, m)
				}
			}
		}
	}
}
