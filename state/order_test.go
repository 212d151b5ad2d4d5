package state_test

import (
	"slices"
	"testing"

	"wardship/api"
	"wardship/state"
)

// allOrders checks that events come to one state in each order in which they can be applied, and how many such orders there are.
func allOrders(t *testing.T, what string, start, want api.State, orderCount int, l ...api.Event) {
	t.Helper()
	count := 0
	for order := range orders(len(l)) {
		got, ok := inOrder(t, start, l, order)
		if !ok {
			continue
		}
		count++
		if !same(got, want) {
			t.Fatalf("%s in the order %v:\n%+v, not\n%+v", what, order, got, want)
		}
	}
	if count != orderCount {
		t.Errorf("%s: %d orders, not %d", what, count, orderCount)
	}
}

// P12.4: a file that is removed and moved, removed twice, moved twice, without each other's knowledge: by hand, which one comes first.
func TestPairs(t *testing.T) {
	s := ground(t)
	drop := func(rep int) api.Event {
		return on(rep, s.Known, api.Event{Kind: api.KindDrop, Obj: file, Gone: ids(file)})
	}
	move := func(rep int, name string) api.Event {
		return on(rep, s.Known, api.Event{Kind: api.KindMove, Obj: file, Gone: ids(file), Name: name})
	}
	late := on(1, s.Known, api.Event{Kind: api.KindMove, Obj: file, Gone: ids(file), Name: "late"})
	entry := func(e api.Event) api.Entry { return api.Entry{ID: e.ID, Name: e.Name, Obj: file} }
	for _, c := range []struct {
		name     string
		one, two api.Event
		by, seen api.Vec
		last     api.ID
		more     []api.Entry
	}{
		{"a drop and a move", drop(2), move(3, "m"), api.Vec{0, 1, 1}, api.Vec{7, 1}, file, []api.Entry{entry(move(3, "m"))}},
		{"a drop and a greater move", drop(2), late, api.Vec{8, 1}, api.Vec{7, 1}, late.ID, []api.Entry{entry(late)}},
		{"two drops", drop(2), drop(3), api.Vec{0, 1, 1}, api.Vec{7, 1, 1}, file, nil},
		{"two lesser moves", move(2, "m"), move(3, "n"), api.Vec{0, 1, 1}, api.Vec{}, file, []api.Entry{entry(move(2, "m")), entry(move(3, "n"))}},
		{"a lesser move and a greater one", move(2, "m"), late, api.Vec{8, 1}, api.Vec{}, late.ID, []api.Entry{entry(move(2, "m")), entry(late)}},
	} {
		want := copyOf(s)
		want.Known = with(with(want.Known, c.one.ID), c.two.ID)
		want.Objects[1].Seen, want.Objects[1].Last = c.seen, c.last
		if c.last == late.ID {
			want.Objects[1].Name = late.Name
		}
		want.Entries[1].By = c.by
		want.Entries = append(want.Entries, c.more...)
		slices.SortFunc(want.Entries, func(a, b api.Entry) int { return byNumber(a.ID, b.ID) })
		allOrders(t, c.name, s, want, 2, c.one, c.two)
	}
}

// P12.4: moves of one object whose numbers differ in their replica alone, or in their Seq: the greatest one names it, wherever it comes.
func TestNamesInAllOrders(t *testing.T) {
	made := api.Event{ID: id(4, 1), Kind: api.KindDir, Name: "zero"}
	s := applied(t, api.State{}, made)
	move := func(rep int, seq uint32, name string) api.Event {
		dep := s.Known
		dep[rep-1] = seq - 1
		return on(rep, dep, api.Event{Kind: api.KindMove, Obj: made.ID, Name: name})
	}
	for _, c := range []struct {
		l      []api.Event
		last   api.ID
		name   string
		orders int
	}{
		{[]api.Event{move(1, 1, "a"), move(2, 1, "b"), move(3, 1, "c")}, made.ID, "zero", 6},
		{[]api.Event{move(1, 1, "a"), move(5, 1, "b"), move(8, 1, "c")}, id(8, 1), "c", 6},
		{[]api.Event{move(8, 1, "a"), move(1, 1, "b"), move(1, 2, "c"), move(5, 1, "d")}, id(1, 2), "c", 12},
		{[]api.Event{move(1, 1, "a"), move(1, 2, "b"), move(2, 1, "c"), move(2, 2, "d")}, id(2, 2), "d", 6},
	} {
		want := result(append([]api.Event{made}, c.l...))
		if want.Objects[0].Last != c.last || want.Objects[0].Name != c.name {
			t.Errorf("the model names it %v, %q", want.Objects[0].Last, want.Objects[0].Name)
		}
		allOrders(t, "moves", s, want, c.orders, c.l...)
	}
}

// P12.4: what replicas do to one file, and to the directories around it, knowing nothing of each other, and then knowing it.
func TestEventsInAllOrders(t *testing.T) {
	s := ground(t)
	on2, on3 := api.Vec{7, 1}, api.Vec{7, 0, 1}
	for _, c := range []struct {
		name   string
		orders int
		l      []api.Event
	}{
		{"versions", 120, []api.Event{
			on(2, s.Known, api.Event{Kind: api.KindWrite, Obj: file, Base: ids(second), Data: "two"}),
			on(3, s.Known, api.Event{Kind: api.KindCut, Obj: file, Base: ids(second), Off: 1}),
			on(1, s.Known, api.Event{Kind: api.KindFix, Obj: file, Base: ids(first, second), Data: "fixed"}),
			on(4, s.Known, api.Event{Kind: api.KindWrite, Obj: file, Data: "none"}),
			on(5, s.Known, api.Event{Kind: api.KindFix, Obj: file, Base: ids(first, second)}),
		}},
		{"versions on top of others", 96, []api.Event{
			on(2, s.Known, api.Event{Kind: api.KindWrite, Obj: file, Base: ids(second), Data: "two"}),
			on(3, s.Known, api.Event{Kind: api.KindCut, Obj: file, Base: ids(second), Off: 1}),
			on(2, on2, api.Event{Kind: api.KindWrite, Obj: file, Base: ids(id(2, 1)), Off: 9, Data: "more"}),
			on(3, on3, api.Event{Kind: api.KindCut, Obj: file, Base: ids(id(3, 1)), Off: 5}),
			on(4, api.Vec{7, 1, 1}, api.Event{Kind: api.KindFix, Obj: file, Base: ids(id(2, 1), id(3, 1), second), Data: "all"}),
			on(1, s.Known, api.Event{Kind: api.KindSeat, Ward: 2}),
		}},
		{"names", 35, []api.Event{
			on(2, s.Known, api.Event{Kind: api.KindMove, Obj: docs, Gone: ids(docs), Dir: empty, Name: "in"}),
			on(3, s.Known, api.Event{Kind: api.KindMove, Obj: empty, Gone: ids(empty), Name: "out"}),
			on(2, on2, api.Event{Kind: api.KindDrop, Obj: docs, Gone: ids(id(2, 1))}),
			on(3, on3, api.Event{Kind: api.KindFile, Dir: docs, Name: "note"}),
			on(4, api.Vec{7, 1, 1}, api.Event{Kind: api.KindDrop, Obj: empty, Gone: ids(id(3, 1), empty)}),
			on(3, api.Vec{7, 0, 2}, api.Event{Kind: api.KindRetire}),
		}},
	} {
		want := result(append(groundEvents(), c.l...))
		allOrders(t, c.name, s, want, c.orders, c.l...)
	}
}

// P12.4: the story in many orders, and wherever it is broken off, what it comes to then.
func TestStoryInManyOrders(t *testing.T) {
	l := story()
	for seed := range dice(3000) {
		d := seed
		got, some := d.anyOrder(t, l)
		isState(t, "the story", got, told())
		if len(some) != len(l) {
			t.Fatalf("%d events", len(some))
		}
	}
}

// anyOrder applies all events in an order by chance, and checks on the way that those that can't be applied yet are refused for it.
func (d *dice) anyOrder(t *testing.T, l []api.Event) (api.State, []api.Event) {
	t.Helper()
	var s api.State
	var done []api.Event
	for left := slices.Clone(l); len(left) > 0; {
		i := d.roll(len(left))
		next, err := state.Apply(s, left[i])
		if !atMost(left[i].Dep, s.Known) {
			if err != api.ErrGap {
				t.Fatalf("Apply of %+v: %d", left[i], err)
			}
			continue
		}
		if err != api.OK {
			t.Fatalf("Apply of %+v: %d", left[i], err)
		}
		s, done, left = next, append(done, left[i]), slices.Delete(left, i, i+1)
	}
	return s, done
}

// together are the events of all sites, each once.
func together(sites []site) []api.Event {
	var all []api.Event
	for _, x := range sites {
		for _, e := range x.log {
			if !slices.ContainsFunc(all, func(f api.Event) bool { return f.ID == e.ID }) {
				all = append(all, e)
			}
		}
	}
	return all
}

// P12.2, P12.4: rows of events by chance, right and wrong ones, at four replicas that hear from each other now and then: each state, and each error, is what the chapter says; all events together come to one state in each of some orders.
func TestHistories(t *testing.T) {
	var kinds [10]int
	for seed := range dice(1000) {
		d := seed * 77
		all := together(d.history(t, 30))
		for _, e := range all {
			kinds[e.Kind]++
		}
		want := result(all)
		for range 4 {
			got, _ := d.anyOrder(t, all)
			isState(t, "all events", got, want)
			isState(t, "all events, read", written(t, got), want)
		}
	}
	for kind := 1; kind <= 9; kind++ {
		if kinds[kind] < 20 {
			t.Errorf("%d events of the kind %d", kinds[kind], kind)
		}
	}
}
