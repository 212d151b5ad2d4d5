package state_test

import (
	"iter"
	"slices"
	"testing"

	"wardship/api"
	"wardship/state"
)

// dice is numbers that a plain rule makes of a seed.
type dice uint32

// roll is a number below n.
func (d *dice) roll(n int) int {
	*d = *d*1664525 + 1013904223
	return int(uint32(*d)>>8) % n
}

// among is one of some numbers, or none if there are none.
func (d *dice) among(l []api.ID) api.ID {
	if len(l) == 0 {
		return api.ID{}
	}
	return l[d.roll(len(l))]
}

// some is up to so many of some numbers, in their order, each once.
func (d *dice) some(l []api.ID, most int) []api.ID {
	var few []api.ID
	for range d.roll(most + 1) {
		if len(l) > 0 {
			few = append(few, l[d.roll(len(l))])
		}
	}
	slices.SortFunc(few, byNumber)
	return slices.Compact(few)
}

// bytes is up to so many bytes.
func (d *dice) bytes(most int) string {
	b := make([]byte, d.roll(most+1))
	for i := range b {
		b[i] = "\x00ab\xff\xc3\xa9"[d.roll(6)]
	}
	return string(b)
}

// name is a name of a few, or, seldom, what is none.
func (d *dice) name() string {
	if d.roll(20) == 0 {
		return "/"
	}
	return []string{"a", "b", "c", "dd"}[d.roll(4)]
}

// known is the numbers of all events that a vector contains.
func known(v api.Vec) []api.ID {
	var l []api.ID
	for i, n := range v {
		for seq := uint32(1); seq <= n; seq++ {
			l = append(l, id(i+1, seq))
		}
	}
	return l
}

// objects are the numbers of a state's objects.
func objects(s api.State) []api.ID {
	var l []api.ID
	for _, o := range s.Objects {
		l = append(l, o.ID)
	}
	return l
}

// versions are the numbers of the versions of one of a state's objects.
func versions(s api.State, number api.ID) []api.ID {
	var l []api.ID
	if o := objectOf(s, number); o != nil {
		for _, v := range o.Versions {
			l = append(l, v.ID)
		}
	}
	return l
}

// event is an event of a replica on top of a state, most of the time one that fits.
func (d *dice) event(s api.State, rep int) api.Event {
	e := api.Event{ID: id(rep, s.Known[rep-1]+1), Dep: s.Known}
	all := known(s.Known)
	e.Kind = []int{1, 1, 2, 2, 3, 3, 3, 4, 5, 5, 6, 6, 7, 7, 7, 8, 9}[d.roll(17)]
	if e.Kind == api.KindRetire && d.roll(4) > 0 {
		e.Kind = api.KindSeat
	}
	e.Obj, e.Dir = d.among(objects(s)), d.among(append(objects(s), api.ID{}))
	if d.roll(12) == 0 {
		e.Obj = d.among(all)
	}
	if d.roll(12) == 0 {
		e.Dir = d.among(all)
	}
	base := versions(s, e.Obj)
	if d.roll(12) == 0 {
		base = all
	}
	e.Base, e.Gone = d.some(base, 1), d.some(all, 8)
	if e.Kind == api.KindFix {
		e.Base = base[:min(len(base), 2+d.roll(7))]
	}
	e.Off, e.Data, e.Name, e.Ward = d.roll(210), d.bytes(12), d.name(), 1+d.roll(4)
	return only(e)
}

// only is an event with the fields of its kind alone.
func only(e api.Event) api.Event {
	of := func(kinds ...int) bool { return isKind(e, kinds...) }
	own := api.Event{ID: e.ID, Dep: e.Dep, Kind: e.Kind}
	if of(3, 4, 5, 6, 7) {
		own.Obj = e.Obj
	}
	if of(1, 2, 7) {
		own.Dir, own.Name = e.Dir, e.Name
	}
	if of(3, 4, 5) {
		own.Base = e.Base
	}
	if of(6, 7) {
		own.Gone = e.Gone
	}
	if of(3, 4) {
		own.Off = e.Off
	}
	if of(3, 5) {
		own.Data = e.Data
	}
	if of(8) {
		own.Ward = e.Ward
	}
	return own
}

// site is a replica, by what it did and heard, in its order, and what that comes to.
type site struct {
	log []api.Event
	s   api.State
}

// adds lets a site apply an event, if it can; the error is what the chapter says, and so is what it comes to.
func (x *site) adds(t *testing.T, e api.Event) bool {
	t.Helper()
	want := expectError(x.s, e)
	if want != api.OK {
		refuses(t, "an event by chance", x.s, e, want)
		return false
	}
	x.s = applied(t, x.s, e)
	x.log = append(x.log, e)
	isState(t, "events by chance", x.s, result(x.log))
	return true
}

// history is what some sites do in so many steps: each does things of its own, and hears from others.
func (d *dice) history(t *testing.T, steps int) []site {
	t.Helper()
	sites := make([]site, 4)
	for range steps {
		here := d.roll(len(sites))
		if d.roll(3) > 0 {
			sites[here].adds(t, d.event(sites[here].s, here*2+1))
			continue
		}
		for _, e := range sites[d.roll(len(sites))].log {
			sites[here].adds(t, e)
		}
	}
	return sites
}

// orders are all orders of so many things.
func orders(n int) iter.Seq[[]int] {
	return func(yield func([]int) bool) {
		if n == 0 {
			yield(nil)
			return
		}
		for shorter := range orders(n - 1) {
			for at := range n {
				if !yield(slices.Insert(slices.Clone(shorter), at, n-1)) {
					return
				}
			}
		}
	}
}

// inOrder applies events in an order, as long as they can be applied.
func inOrder(t *testing.T, start api.State, l []api.Event, order []int) (api.State, bool) {
	t.Helper()
	s := start
	for _, i := range order {
		if want := expectError(s, l[i]); want != api.OK {
			if _, err := state.Apply(s, l[i]); err != want {
				t.Errorf("Apply of %+v: %d, not %d", l[i], err, want)
			}
			return s, false
		}
		next, err := state.Apply(s, l[i])
		if err != api.OK {
			t.Fatalf("Apply of %+v: %d", l[i], err)
		}
		s = next
	}
	return s, true
}
