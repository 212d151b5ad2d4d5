package device_test

import (
	"math"
	"testing"

	"wardship/api"
	"wardship/device"
)

// keepAll is a choice of more loose writes than the tests make.
func keepAll() api.Choice { return api.Choice{Kept: []int{0, 1, 2, 3, 4, 5, 6, 7, 8, 9}, Torn: -1} }

// struck makes a change that a planned cut must come at.
func struck(t *testing.T, d *device.Device, change func() api.Errno) {
	t.Helper()
	changes := d.Changes()
	if e := change(); e != api.ErrDown {
		t.Fatalf("the change = %d, want %d", e, api.ErrDown)
	}
	counts(t, d, true, 0, changes+1)
}

// P3.2: at the next change, a write: it is loose when the cut comes, so that it is one of the choice.
func TestPlannedAtAWrite(t *testing.T) {
	for _, c := range []struct {
		choice      api.Choice
		first, last []byte
	}{
		{none(), filled(0), filled(0)},
		{api.Choice{Kept: []int{1}, Torn: -1}, filled(0), filled('b')},
		{api.Choice{Kept: []int{0}, Torn: -1}, filled('a'), filled(0)},
		{api.Choice{Kept: []int{0}, Torn: 1, Half: 9}, filled('a'), mixed(9, 'b', 0)},
		{api.Choice{Kept: []int{2}, Torn: 2, Half: 9}, filled(0), filled(0)},
	} {
		d := create(t, 2)
		write(t, d, 0, filled('a'))
		d.Plan(0, c.choice)
		counts(t, d, false, 1, 1)
		reads(t, d, 0, filled('a'))
		struck(t, d, func() api.Errno { return d.Write(1, filled('b')) })
		on(t, d)
		reads(t, d, 0, c.first)
		reads(t, d, 1, c.last)
		counts(t, d, false, 0, 2)
	}
}

// P3.2: at the next change, a barrier: it has had no effect when the cut comes.
func TestPlannedAtABarrier(t *testing.T) {
	for _, c := range []struct {
		choice      api.Choice
		first, last []byte
	}{
		{none(), filled(0), filled(0)},
		{api.Choice{Kept: []int{1}, Torn: 0, Half: 4}, mixed(4, 'a', 0), filled('b')},
		{keepAll(), filled('a'), filled('b')},
	} {
		d := create(t, 2)
		write(t, d, 0, filled('a'))
		write(t, d, 1, filled('b'))
		d.Plan(0, c.choice)
		struck(t, d, d.Barrier)
		on(t, d)
		reads(t, d, 0, c.first)
		reads(t, d, 1, c.last)
		barrier(t, d)
		counts(t, d, false, 0, 4)
	}
}

// P3.2: after other changes, writes and barriers alike, come ahead of the cut.
func TestPlannedLater(t *testing.T) {
	for after := range 12 {
		d := create(t, 1)
		write(t, d, 0, filled('x'))
		d.Plan(after, none())
		loose := 1
		for n := range after {
			if n%3 == 2 {
				barrier(t, d)
				loose = 0
			} else {
				write(t, d, 0, filled(byte(n)))
				loose++
			}
		}
		counts(t, d, false, loose, after+1)
		if after%2 == 0 {
			struck(t, d, d.Barrier)
		} else {
			struck(t, d, func() api.Errno { return d.Write(0, filled('y')) })
		}
		on(t, d)
		want := byte(0)
		if after >= 3 {
			want = byte(after/3*3 - 2) // what the last barrier found
		}
		reads(t, d, 0, filled(want))
	}
}

// P3.2: calls that find an error, and those that are no changes, don't bring the cut nearer, nor is it at them.
func TestPlannedPastErrors(t *testing.T) {
	d := create(t, 2)
	d.Plan(1, keepAll())
	calls := func() {
		t.Helper()
		if e := d.Write(-1, filled('z')); e != api.ErrNone {
			t.Fatalf("Write(-1) = %d", e)
		}
		if e := d.Write(2, nil); e != api.ErrNone {
			t.Fatalf("Write(2) = %d", e)
		}
		if e := d.Write(0, nil); e != api.ErrArg {
			t.Fatalf("Write of nil = %d", e)
		}
		if _, e := d.Read(5); e != api.ErrNone {
			t.Fatalf("Read(5) = %d", e)
		}
		if _, e := d.Read(0); e != api.OK || d.On() || d.Size() != 2 {
			t.Fatal("it isn't on")
		}
	}
	calls()
	write(t, d, 0, filled('a'))
	calls()
	struck(t, d, func() api.Errno { return d.Write(1, filled('b')) })
	on(t, d)
	reads(t, d, 0, filled('a'))
	reads(t, d, 1, filled('b'))
}

// P3.2: there is one planned cut at most: another one takes its place, with its own count and choice.
func TestPlannedAnew(t *testing.T) {
	d := create(t, 1)
	d.Plan(0, keepAll())
	d.Plan(2, none())
	write(t, d, 0, filled('a'))
	write(t, d, 0, filled('b'))
	struck(t, d, func() api.Errno { return d.Write(0, filled('c')) })
	on(t, d)
	reads(t, d, 0, filled(0))

	d.Plan(5, none())
	write(t, d, 0, filled('d'))
	d.Plan(0, api.Choice{Kept: []int{0}, Torn: 1, Half: 3})
	struck(t, d, func() api.Errno { return d.Write(0, filled('e')) })
	on(t, d)
	reads(t, d, 0, mixed(3, 'e', 'd'))

	d.Plan(1, none())
	write(t, d, 0, filled('f'))
	d.Plan(1, keepAll())
	write(t, d, 0, filled('g'))
	struck(t, d, d.Barrier)
	on(t, d)
	reads(t, d, 0, filled('g'))
}

// P3.2: an after below 0: no cut is planned any more.
func TestPlannedNoMore(t *testing.T) {
	for _, after := range []int{-1, -2, -100, math.MinInt} {
		d := create(t, 1)
		d.Plan(after, keepAll())
		write(t, d, 0, filled('a'))
		d.Plan(0, none())
		d.Plan(after, keepAll())
		write(t, d, 0, filled('b'))
		d.Plan(1, none())
		write(t, d, 0, filled('c'))
		d.Plan(after, none())
		for range 5 {
			barrier(t, d)
		}
		counts(t, d, false, 0, 8)
		reads(t, d, 0, filled('c'))
	}
}

// P3.2: a planned cut comes once.
func TestPlannedOnce(t *testing.T) {
	d := create(t, 1)
	d.Plan(0, none())
	struck(t, d, d.Barrier)
	on(t, d)
	for n := range 4 {
		write(t, d, 0, filled(byte(n)))
		barrier(t, d)
	}
	counts(t, d, false, 0, 9)
}

// P3.2: after a cut none is planned, the one that was planned for later neither.
func TestCutEndsThePlan(t *testing.T) {
	for after := range 4 {
		d := create(t, 1)
		d.Plan(after, keepAll())
		d.Cut(none())
		on(t, d)
		for n := range 6 {
			write(t, d, 0, filled(byte(n)))
		}
		counts(t, d, false, 6, 6)
	}
}

// P3.2: a cut may be planned while the power is off; it comes at a change behind On, and a Cut meanwhile, which does nothing, leaves it planned.
func TestPlannedWhileOff(t *testing.T) {
	d := create(t, 1)
	d.Cut(none())
	d.Plan(1, keepAll())
	d.Cut(none())
	d.Write(0, filled('z'))
	d.Barrier()
	counts(t, d, true, 0, 0)
	on(t, d)
	write(t, d, 0, filled('a'))
	struck(t, d, func() api.Errno { return d.Write(0, filled('b')) })
	d.Plan(0, none())
	d.Plan(-1, none())
	on(t, d)
	reads(t, d, 0, filled('b'))
	barrier(t, d)
}

// P3.2: a plan for a change that never comes.
func TestPlannedFarAway(t *testing.T) {
	for _, after := range []int{1 << 32, math.MaxInt - 1, math.MaxInt} {
		d := create(t, 1)
		write(t, d, 0, filled('a'))
		d.Plan(after, none())
		for range 100 {
			barrier(t, d)
		}
		counts(t, d, false, 0, 101)
	}
}
