package history_test

import (
	"math"
	"slices"
	"testing"

	"wardship/api"
	"wardship/event"
	"wardship/history"
	"wardship/state"
)

// dice is numbers that a plain rule makes of a seed.
type dice uint32

// roll is a number below n.
func (d *dice) roll(n int) int {
	*d = *d*1664525 + 1013904223
	return int(uint32(*d)>>8) % n
}

// among is one of some numbers, or none if there are none.
func (d *dice) among(l []api.ID) api.ID {
	if len(l) == 0 {
		return api.ID{}
	}
	return l[d.roll(len(l))]
}

// some is up to so many of some numbers, in their order, each once.
func (d *dice) some(l []api.ID, most int) []api.ID {
	var few []api.ID
	for range d.roll(most + 1) {
		if len(l) > 0 {
			few = append(few, l[d.roll(len(l))])
		}
	}
	slices.SortFunc(few, func(a, b api.ID) int {
		if a.Seq != b.Seq {
			return int(a.Seq) - int(b.Seq)
		}
		return a.Rep - b.Rep
	})
	return slices.Compact(few)
}

// event is an event of a replica on top of a state, most of the time one that fits.
func (d *dice) event(s api.State, rep int) api.Event {
	e := api.Event{ID: id(rep, s.Known[rep-1]+1), Dep: s.Known, Kind: 1 + d.roll(10)}
	if e.Kind == api.KindRetire && d.roll(6) > 0 {
		e.Kind = api.KindFile
	}
	// The zero number and a retirement, or a seat, are no objects, so that some are refused.
	things, versions := ids(api.ID{}), ids()
	for _, o := range s.Objects {
		things = append(things, o.ID, o.ID)
		for _, v := range o.Versions {
			versions = append(versions, v.ID)
		}
	}
	if d.roll(12) == 0 {
		things = ids(id(1+d.roll(8), uint32(1+d.roll(4))))
	}
	switch e.Kind {
	case api.KindFile, api.KindDir:
		e.Dir, e.Name = d.among(things), d.name()
	case api.KindWrite:
		e.Obj, e.Base, e.Off, e.Data = d.among(things), d.some(versions, 1), d.roll(9), d.name()
	case api.KindCut:
		e.Obj, e.Base, e.Off = d.among(things), d.some(versions, 1), d.roll(9)
	case api.KindFix:
		e.Obj, e.Base, e.Data = d.among(things), d.some(versions, 6), d.name()
	case api.KindDrop:
		e.Obj, e.Gone = d.among(things), d.some(things, 3)
	case api.KindMove:
		e.Obj, e.Gone, e.Dir, e.Name = d.among(things), d.some(things, 3), d.among(things), d.name()
	case api.KindSeat:
		e.Ward = 1 + d.roll(4)
	}
	return e
}

// name is a name of a few, or, seldom, what is none.
func (d *dice) name() string {
	return []string{"a", "b", "c", "dd", "ee", "f.f", "a", "/"}[d.roll(8)]
}

// between is a vector at least one and at most another one, or, seldom, near such a one.
func (d *dice) between(low, high api.Vec) api.Vec {
	v := low
	for i := range v {
		if high[i] > low[i] {
			v[i] += uint32(d.roll(int(high[i]-low[i]) + 1))
		}
	}
	switch d.roll(8) {
	case 0:
		v[d.roll(api.MaxRep)] += uint32(1 - 2*d.roll(2))
	case 1:
		v[2*d.roll(4)] = 0
	}
	return v
}

// swept is a state without some of what it has, and perhaps with another Known.
func (d *dice) swept(s api.State) api.State {
	s = state.Clone(s)
	s.Entries = slices.DeleteFunc(s.Entries, func(x api.Entry) bool { return x.By != (api.Vec{}) && d.roll(2) == 0 })
	for i := range s.Objects {
		o := &s.Objects[i]
		o.Versions = slices.DeleteFunc(o.Versions, func(v api.Version) bool { return v.By != (api.Vec{}) && d.roll(2) == 0 })
	}
	if d.roll(3) == 0 {
		s.Known[d.roll(api.MaxRep)]++
	}
	return s
}

// log is events near those that a history can tell: some are left out, some come twice, some are others.
func (d *dice) log(l []api.Event, s api.State) []api.Event {
	var log []api.Event
	for _, e := range l {
		switch d.roll(20) {
		case 0:
		case 1:
			log = append(log, e, e)
		case 2:
			log = append(log, d.event(s, 1+d.roll(8)))
		default:
			log = append(log, e)
		}
	}
	return log
}

// resumes checks Resume with parts of what a history and its model have, at some floor.
func (d *dice) resumes(t *testing.T, h *history.History, m *model, past api.State, tally map[api.Errno]int) {
	t.Helper()
	log, floor := m.told(api.Vec{}), m.floor
	if d.roll(2) == 0 {
		log, floor = d.log(log, m.s), d.between(m.floor, m.s.Known)
	}
	for _, s := range []api.State{m.s, past, {}} {
		want, wrong := expectResume(s, floor, log)
		again, err := history.Resume(s, floor, log)
		if err != wrong || (again == nil) != (wrong != api.OK) {
			t.Fatalf("Resume: nil is %t, %d, not %d", again == nil, err, wrong)
		}
		tally[err]++
		if err == api.OK {
			is(t, "resumed", again, want)
		}
	}
}

// P16.1, P16.2: rows of calls by chance at four histories that hear of each other, right and wrong ones; all that they answer is what the chapter says.
func TestCallsByChance(t *testing.T) {
	tally := map[string]map[api.Errno]int{"Add": {}, "Trim": {}, "Swap": {}, "Resume": {}, "Since": {}}
	for seed := range dice(150) {
		d := seed * 101
		var hs []*history.History
		var ms []*model
		var past api.State
		for range 4 {
			h, m := started(t)
			hs, ms = append(hs, h), append(ms, m)
		}
		for range 80 {
			here, there := d.roll(4), d.roll(4)
			h, m := hs[here], ms[here]
			switch d.roll(9) {
			case 0, 1, 2, 3:
				e := d.event(m.s, 2*here+1)
				want := m.add(e)
				if err := h.Add(e); err != want {
					t.Fatalf("Add of %+v: %d, not %d", e, err, want)
				}
				tally["Add"][want]++
			case 4, 5:
				tally["Since"][hears(t, h, m, hs[there], ms[there])]++
			case 6:
				v := d.between(m.floor, m.s.Known)
				want := m.trim(v)
				if err := h.Trim(v); err != want {
					t.Fatalf("Trim: %d, not %d", err, want)
				}
				tally["Trim"][want]++
			case 7:
				s := d.swept(m.s)
				want := m.swap(s)
				if err := h.Swap(s); err != want {
					t.Fatalf("Swap: %d, not %d", err, want)
				}
				tally["Swap"][want]++
			case 8:
				d.resumes(t, h, m, past, tally["Resume"])
				past = state.Clone(m.s)
			}
			is(t, "by chance", h, m)
		}
	}
	for call, errs := range map[string][]api.Errno{
		"Add": {api.OK, api.ErrForm, api.ErrRetired, api.ErrNone, api.ErrNotDir, api.ErrIsDir}, "Since": {api.OK, api.ErrOld},
		"Trim": {api.OK, api.ErrOld, api.ErrGap}, "Swap": {api.OK, api.ErrArg}, "Resume": {api.OK, api.ErrForm, api.ErrGap},
	} {
		for _, err := range errs {
			if tally[call][err] < 10 {
				t.Errorf("%s answers %d for %d times", call, err, tally[call][err])
			}
		}
	}
}

// hears adds to a history what another one tells it, whatever comes of it, and is the error of the telling.
func hears(t *testing.T, h *history.History, m *model, other *history.History, told *model) api.Errno {
	t.Helper()
	if !atMost(told.floor, m.s.Known) {
		isOld(t, other, h.Known())
		return api.ErrOld
	}
	l := since(t, other, h.Known())
	areEvents(t, "what is told", l, told.told(m.s.Known))
	for _, e := range l {
		want := m.add(e)
		if err := h.Add(e); err != want {
			t.Fatalf("Add of %+v: %d, not %d", e, err, want)
		}
	}
	return api.OK
}

// odd is a vector of all kinds.
func (d *dice) odd() api.Vec {
	var v api.Vec
	for i := range v {
		v[i] = []uint32{0, 0, 1, 2, 3, 1 << 20, 1<<20 + 1, math.MaxUint32}[d.roll(8)]
	}
	return v
}

// oddNumber is a number of nothing, or of an event.
func (d *dice) oddNumber() api.ID {
	return id([]int{math.MinInt, -1, 0, 1, 1, 2, 2, 8, 9, math.MaxInt}[d.roll(10)], []uint32{0, 1, 1, 2, 3, 1 << 20, math.MaxUint32}[d.roll(7)])
}

// oddEvent is an event of all kinds.
func (d *dice) oddEvent() api.Event {
	e := api.Event{ID: d.oddNumber(), Dep: d.odd(), Kind: d.roll(12) - 1, Name: d.name(), Ward: d.roll(7) - 1}
	if d.roll(2) == 0 {
		e = api.Event{ID: id(1+d.roll(2), 1), Kind: api.KindSeat, Ward: 1}
	}
	return e
}

// oddState is a state that no events come to.
func (d *dice) oddState() api.State {
	s := api.State{Known: d.odd(), Wards: [8]int{d.roll(9) - 4}, Retired: [8]bool{d.roll(5) == 0}}
	if d.roll(2) == 0 {
		s.Known = api.Vec{}
	}
	for range d.roll(5) {
		s.Objects = append(s.Objects, api.Object{ID: d.oddNumber(), Dir: d.roll(2) == 0, Versions: []api.Version{{ID: d.oddNumber()}, {ID: d.oddNumber()}}})
		s.Entries = append(s.Entries, api.Entry{ID: d.oddNumber(), Obj: d.oddNumber(), Dir: d.oddNumber()})
	}
	return s
}

// P1, P2: states, vectors and events that there can't be end without a panic, and come to the chapter's words as far as those say something.
func TestOddCalls(t *testing.T) {
	found := 0
	for seed := range dice(20000) {
		d := seed * 7
		s, floor := d.oddState(), d.odd()
		if d.roll(2) == 0 {
			floor = s.Known
		}
		var log []api.Event
		for range d.roll(4) {
			log = append(log, d.oddEvent())
		}
		want, wrong := expectResume(s, floor, log)
		h, err := history.Resume(s, floor, log)
		if err != wrong || (h == nil) != (err != api.OK) {
			t.Fatalf("Resume: nil is %t, %d, not %d", h == nil, err, wrong)
		}
		if err != api.OK {
			h, want = history.Start(s), begun(s)
		} else if len(log) > 0 {
			found++
		}
		is(t, "an odd history", h, want)
		e, v, other := d.oddEvent(), d.odd(), d.oddState()
		if got, expect := h.Add(e), want.add(e); got != expect {
			t.Fatalf("Add: %d, not %d", got, expect)
		}
		if got, expect := h.Trim(v), want.trim(v); got != expect {
			t.Fatalf("Trim: %d, not %d", got, expect)
		}
		if got, expect := h.Swap(other), want.swap(other); got != expect {
			t.Fatalf("Swap: %d, not %d", got, expect)
		}
		is(t, "behind odd calls", h, want)
	}
	if found < 300 {
		t.Errorf("%d logs were taken", found)
	}
}

// P1: long logs end soon, and so do many events.
func TestLongHistories(t *testing.T) {
	const n = 200000
	log := make([]api.Event, n)
	for i := range log {
		log[i] = seated(id(3, uint32(i+1)))
	}
	for _, known := range []uint32{0, n / 2, n} {
		h, err := history.Resume(api.State{Known: api.Vec{2: known}}, api.Vec{}, log)
		if err != api.OK || h.Len() != n || h.Known() != (api.Vec{2: n}) {
			t.Fatalf("Resume: %d, %d events", err, h.Len())
		}
		if err := h.Add(seated(id(3, n+1))); err != api.OK {
			t.Errorf("Add: %d", err)
		}
		areNumbers(t, "the last ones", since(t, h, api.Vec{2: n - 1}), id(3, n), id(3, n+1))
		if err := h.Trim(api.Vec{2: n}); err != api.OK || h.Len() != 1 {
			t.Errorf("Trim: %d, %d events", err, h.Len())
		}
	}
	refuses(t, "the last one twice", api.State{Known: api.Vec{2: n}}, api.Vec{}, []api.Event{log[n-1], log[n-1]}, api.ErrForm)
	if h, err := history.Resume(api.State{Known: api.Vec{2: n}}, api.Vec{}, append(slices.Clip(log), event0(log))); h != nil || err != api.ErrForm {
		t.Errorf("the first one again behind all: %d", err)
	}
}

// event0 is the first event of a log, as another one of its number.
func event0(log []api.Event) api.Event {
	e := log[0]
	e.Ward = e.Ward%4 + 1
	if event.Same(e, log[0]) {
		e.Ward = 0
	}
	return e
}
