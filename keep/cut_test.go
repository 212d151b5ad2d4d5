package keep_test

import (
	"testing"

	"wardship/api"
	"wardship/device"
)

// choices is what may stay of so many loose writes: any of them, and a part of any one, of each of these sizes.
func choices(loose int, halves []int) []api.Choice {
	var all []api.Choice
	for set := range 1 << loose {
		var kept []int
		for n := range loose {
			if set>>n&1 == 1 {
				kept = append(kept, n)
			}
		}
		all = append(all, api.Choice{Kept: kept, Torn: -1})
		for torn := range loose {
			for _, half := range halves {
				all = append(all, api.Choice{Kept: kept, Torn: torn, Half: half})
			}
		}
	}
	return all
}

// upTo is 0, 1, .., n.
func upTo(n int) []int {
	var all []int
	for i := range n + 1 {
		all = append(all, i)
	}
	return all
}

// trial is a Commit of a store with some contents, on a device of 8 sectors.
type trial struct {
	before  contents
	image   [][]byte
	l       []api.Put
	changes int
}

// trials is Commits that add a record, and ones that replace all records, in one sector and in several.
func trials(t testing.TB) []trial {
	t.Helper()
	var all []trial
	for n, c := range []struct {
		old  [][]api.Put
		l    []api.Put
		full bool
	}{
		{nil, []api.Put{put(1, "a")}, false},
		{[][]api.Put{{put(1, "a"), put(2, "b")}}, []api.Put{gone(1), put(2, "c"), put(3, "")}, false},
		{[][]api.Put{{put(1, "a")}, {put(2, noise(1, 200))}}, []api.Put{put(1, noise(2, 300)), gone(2)}, false},
		{[][]api.Put{{put(1, noise(1, 240))}}, []api.Put{put(2, noise(2, 460)), put(1, "")}, false},
		{[][]api.Put{{put(1, "a"), put(2, "b")}}, []api.Put{gone(1), put(2, "c")}, true},
		{[][]api.Put{{put(1, noise(1, 200)), put(2, noise(2, 100))}}, []api.Put{put(3, noise(3, 100)), put(2, "")}, true},
		{[][]api.Put{{put(1, noise(1, 200)), put(2, noise(2, 200))}, {put(3, "c")}}, []api.Put{put(4, noise(4, 190)), gone(3)}, true},
		{[][]api.Put{{put(1, "a"), put(2, "b")}}, []api.Put{gone(1), gone(2)}, true},
	} {
		for extra := range 2 { // so that the tally comes to either sector
			d := create(t, 8)
			k := open(t, d, nil)
			var before contents
			for _, old := range c.old {
				is(t, "Commit", k.Commit(old), api.OK)
				before = before.after(old...)
			}
			for range extra {
				is(t, "Commit", k.Commit([]api.Put{gone(50)}), api.OK)
			}
			if c.full {
				fillUp(t, k, nil)
			}
			x := trial{before: before, image: image(t, d), l: c.l}
			free, was := k.Room(), d.Changes()
			is(t, "Commit", k.Commit(c.l), api.OK)
			x.changes = d.Changes() - was
			if replaced := len(stored(encoded(c.l...))) > free; replaced != c.full {
				t.Fatalf("trial %d: replaced = %v", n, replaced)
			}
			all = append(all, x)
		}
	}
	return all
}

// whole tells whether a Commit that is cut is found after all: its tally is durable, as far as it matters.
func (x trial) whole(cut int, c api.Choice) bool {
	return cut >= x.changes-2 && (len(c.Kept) == 1 || c.Torn == 0 && c.Half >= 64)
}

// choices is what may stay if the power is cut at a change of the Commit.
func (x trial) choices(cut int) []api.Choice {
	if cut >= x.changes-2 { // the tally
		return choices(1, upTo(256))
	}
	return choices(min(cut+1, x.changes-3), []int{1, 6, 50, 100, 199, 207, 250, 255})
}

// cutAt makes the Commit on a device of its own, on which it is cut, and turns the power on again.
func (x trial) cutAt(t testing.TB, cut int, c api.Choice) (d *device.Device, now contents) {
	t.Helper()
	d = laid(t, x.image)
	k := open(t, d, x.before)
	free := k.Room()
	d.Plan(cut, c)
	is(t, "a Commit that is cut", k.Commit(x.l), api.ErrDown)
	if !k.Broken() || !d.Off() {
		t.Fatalf("Broken() = %v, Off() = %v", k.Broken(), d.Off())
	}
	holds(t, k, x.before)
	room(t, k, free)
	on(t, d)
	is(t, "a Commit of a broken store", k.Commit(nil), api.ErrState)
	is(t, "a Commit of a broken store", k.Commit(x.l), api.ErrState)
	holds(t, k, x.before)
	if x.whole(cut, c) {
		return d, x.before.after(x.l...)
	}
	return d, x.before
}

// P5.2, P5.3: the power is cut at each change of a Commit, with each choice of what stays: the store has what it had, and what is found is that or what the Commit produces.
func TestCutAtEachChange(t *testing.T) {
	for _, x := range trials(t) {
		for cut := range x.changes {
			for _, c := range x.choices(cut) {
				d, now := x.cutAt(t, cut, c)
				open(t, d, now)
			}
		}
		d := laid(t, x.image)
		k := open(t, d, x.before)
		d.Plan(x.changes, none())
		is(t, "a Commit that isn't cut", k.Commit(x.l), api.OK)
		d.Cut(none())
		on(t, d)
		open(t, d, x.before.after(x.l...))
	}
}

// P5.3: after a cut at any change, a second Commit, which may be cut too, finds and leaves what it should.
func TestCutTwice(t *testing.T) {
	second := []api.Put{put(1, noise(7, 40)), gone(2), put(6, "")}
	for _, x := range trials(t) {
		for cut := range x.changes {
			for _, c := range choices(1, []int{7, 63, 64}) {
				d, now := x.cutAt(t, cut, c)
				k := open(t, d, now)
				middle, was := image(t, d), d.Changes()
				is(t, "the second Commit", k.Commit(second), api.OK)
				open(t, d, now.after(second...))
				y := trial{now, middle, second, d.Changes() - was}
				for cut := range y.changes {
					for _, c := range choices(1, []int{30, 63, 64}) {
						d, now := y.cutAt(t, cut, c)
						open(t, d, now)
					}
				}
			}
		}
	}
}

// P5.2: a Commit that finds the power off makes no change, and breaks the store.
func TestCommitWhileOff(t *testing.T) {
	for _, x := range trials(t) {
		d := laid(t, x.image)
		k := open(t, d, x.before)
		d.Cut(none())
		changes := d.Changes()
		is(t, "Commit", k.Commit(x.l), api.ErrDown)
		if d.Changes() != changes || !k.Broken() {
			t.Errorf("%d changes, Broken() = %v", d.Changes()-changes, k.Broken())
		}
		holds(t, k, x.before)
		on(t, d)
		is(t, "Commit", k.Commit(x.l), api.ErrState)
		k = open(t, d, x.before)
		is(t, "Commit", k.Commit(x.l), api.OK)
		open(t, d, x.before.after(x.l...))
	}
}
