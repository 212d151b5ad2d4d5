package history_test

import (
	"slices"
	"testing"

	"wardship/api"
	"wardship/history"
	"wardship/state"
)

// tells lets a history add what another one yields for what it knows, in order, without an error; then it knows what both knew, and nothing else.
func tells(t *testing.T, from, to *history.History) {
	t.Helper()
	want, floor, n := from.Known(), to.Floor(), to.Len()
	for i, known := range to.Known() {
		want[i] = max(want[i], known)
	}
	l := since(t, from, to.Known())
	for _, e := range l {
		if err := to.Add(e); err != api.OK {
			t.Fatalf("Add of %+v: %d", e, err)
		}
	}
	if to.Known() != want || to.Floor() != floor || to.Len() != n+len(l) {
		t.Fatalf("%v is known, not %v; the floor %v, %d events", to.Known(), want, to.Floor(), to.Len())
	}
	areNumbers(t, "what is still to be told", since(t, from, to.Known()))
}

// areSame checks that histories have the same state.
func areSame(t *testing.T, l ...*history.History) {
	t.Helper()
	for _, h := range l[1:] {
		if !state.Same(h.State(), l[0].State()) {
			t.Fatalf("%+v, not\n%+v", h.State(), l[0].State())
		}
	}
}

// P16.3: whoever knows the story up to some event comes to know it whole, from each history that can tell the rest; its own events are its own.
func TestTellTheStory(t *testing.T) {
	whole := comesTo(t, story()...)
	for known := range len(story()) + 1 {
		for floor := range len(story()) + 1 {
			from, _ := teller(t, floor)
			to, _ := teller(t, known)
			h, _ := started(t, story()[:known]...)
			if known < floor && !atMost(from.Floor(), h.Known()) {
				isOld(t, from, h.Known())
				continue
			}
			tells(t, from, h)
			if !state.Same(h.State(), whole) {
				t.Errorf("%d, %d: %+v", known, floor, h.State())
			}
			tells(t, from, to)
			areSame(t, from, to, h)
		}
	}
}

// P16.3: two that did different things on common ground, at different floors, tell each other everything, in both orders, and all at once.
func TestTellEachOther(t *testing.T) {
	d, f := id(1, 1), id(1, 2)
	for known := 8; known <= len(story()); known++ {
		one, m := teller(t, 0)
		trims(t, one, m, comesTo(t, story()[:known/2]...).Known)
		two, n := teller(t, known)
		adds(t, one, m,
			on(1, api.Event{Kind: api.KindMove, Obj: f, Gone: ids(id(1, 5)), Name: "mine"}),
			api.Event{ID: id(1, 7), Dep: api.Vec{6, 3, 2, 2, 7: 1}, Kind: api.KindFile, Dir: d, Name: "new"},
			api.Event{ID: id(1, 8), Dep: api.Vec{7, 3, 2, 2, 7: 1}, Kind: api.KindWrite, Obj: id(1, 7), Data: "data"},
		)
		adds(t, two, n,
			on(2, api.Event{Kind: api.KindDrop, Obj: f, Gone: ids(id(1, 5))}),
			api.Event{ID: id(2, 5), Dep: api.Vec{5, 4, 2, 2, 7: 1}, Kind: api.KindWrite, Obj: f, Base: ids(id(3, 1)), Data: "more"},
			api.Event{ID: id(2, 6), Dep: api.Vec{5, 5, 2, 2, 7: 1}, Kind: api.KindRetire},
		)
		if state.Same(one.State(), two.State()) {
			t.Error("they are the same ahead of it")
		}
		if known%2 == 0 {
			one, two = two, one
		}
		tells(t, one, two)
		tells(t, two, one)
		areSame(t, one, two)
		if one.Floor() == two.Floor() {
			t.Errorf("both floors are %v", one.Floor())
		}
	}
	one, m := teller(t, 0)
	two, n := teller(t, 7)
	adds(t, one, m, on(6, api.Event{Kind: api.KindSeat, Ward: 1}))
	adds(t, two, n, on(7, api.Event{Kind: api.KindSeat, Ward: 2}))
	ofOne, ofTwo := since(t, one, two.Known()), since(t, two, one.Known())
	adds(t, two, n, ofOne...)
	adds(t, one, m, ofTwo...)
	areSame(t, one, two)
}

// P16.3: what is told while it is added: the iterator is ranged over, and each event goes to the other one at once.
func TestTellWhileRanging(t *testing.T) {
	from, _ := teller(t, 2)
	to, _ := started(t, story()[:4]...)
	all, err := from.Since(to.Known())
	if err != api.OK {
		t.Fatal(err)
	}
	for e := range all {
		if err := to.Add(e); err != api.OK {
			t.Fatalf("Add of %+v: %d", e, err)
		}
	}
	areSame(t, from, to)
}

// P16.3: histories that act by chance, hear of each other now and then, and tell no more what all know; in the end each tells each one everything, and all have the same state, whoever came late.
func TestTellByChance(t *testing.T) {
	floors, trimmed := 0, 0
	for seed := range dice(250) {
		d := seed * 31
		var hs []*history.History
		for range 4 {
			h, _ := started(t)
			hs = append(hs, h)
		}
		for range 60 {
			h, other := hs[d.roll(4)], hs[d.roll(4)]
			switch at := slices.Index(hs, h); d.roll(6) {
			case 0, 1, 2:
				h.Add(d.event(h.State(), 2*at+2))
			case 3, 4:
				tells(t, other, h)
			case 5:
				v := d.known(hs, h.Floor())
				if err := h.Trim(v); err != api.OK {
					t.Fatalf("Trim(%v) behind %v: %d", v, h.Floor(), err)
				}
				trimmed++
			}
		}
		for _, h := range hs {
			if h.Floor() != hs[0].Floor() {
				floors++
			}
		}
		for _, from := range hs {
			for _, to := range hs {
				tells(t, from, to)
			}
		}
		for _, to := range hs {
			tells(t, hs[3], to)
		}
		areSame(t, hs...)
		late := history.Start(api.State{})
		if hs[0].Floor() == (api.Vec{}) {
			tells(t, hs[0], late)
			areSame(t, hs[0], late)
		} else {
			isOld(t, hs[0], late.Known())
		}
	}
	if floors < 300 || trimmed < 1000 {
		t.Errorf("%d other floors, %d trims", floors, trimmed)
	}
}

// known is a vector, at least a floor, that all histories know.
func (d *dice) known(hs []*history.History, floor api.Vec) api.Vec {
	least := hs[0].Known()
	for _, h := range hs[1:] {
		for i, n := range h.Known() {
			least[i] = min(least[i], n)
		}
	}
	for i := range least {
		least[i] = floor[i] + uint32(d.roll(int(least[i]-floor[i])+1))
	}
	return least
}
