package journal_test

import (
	"slices"
	"testing"

	"wardship/api"
	"wardship/device"
	"wardship/journal"
)

// unchanged checks that a call fails, and that nothing of the journal or its device is otherwise than before.
func unchanged(t *testing.T, d *device.Device, j *journal.Journal, want api.Errno, call func() api.Errno) {
	t.Helper()
	free, count, broken := j.Room(), j.Len(), j.Broken()
	all, changes := image(t, d), d.Changes()
	is(t, "a call", call(), want)
	tells(t, j, broken, count)
	room(t, j, free)
	sameImage(t, d, all)
	if d.Changes() != changes || d.Loose() != 0 || d.Off() {
		t.Fatal("the device was changed")
	}
}

// P4.2: a side that is full to its last byte, and one byte more.
func TestFull(t *testing.T) {
	for _, sectors := range []int{6, 7, 8, 40} {
		_, size := sideOf(sectors, 0)
		for _, old := range []int{0, 5, 7, 255, 256, 500, 507} {
			d := noisy(t, sectors)
			j := open(t, d)
			records := exactly(1, old)
			is(t, "Add", j.Add(records...), api.OK)
			rest := exactly(2, size-old)
			more := slices.Clone(rest)
			more[0] = noise(3, len(rest[0])+1)
			unchanged(t, d, j, api.ErrFull, func() api.Errno { return j.Add(more...) })
			unchanged(t, d, j, api.ErrFull, func() api.Errno { return j.Add(append(slices.Clone(rest), nil)...) })
			is(t, "Add", j.Add(rest...), api.OK)
			records = append(records, rest...)
			room(t, j, 0)
			j = open(t, d, records...)
			unchanged(t, d, j, api.ErrFull, func() api.Errno { return j.Add(nil) })
			unchanged(t, d, j, api.OK, func() api.Errno { return j.Add() })
			is(t, "Replace", j.Replace([]byte("a")), api.OK)
			room(t, j, size-6)
			open(t, d, []byte("a"))
		}
	}
}

// P4.2: a Replace that fills a side to its last byte, and one byte more: what was there before doesn't matter.
func TestReplaceFull(t *testing.T) {
	for _, sectors := range []int{6, 7, 8, 40} {
		_, size := sideOf(sectors, 0)
		d := noisy(t, sectors)
		j := open(t, d)
		for seed := range uint32(3) {
			records := exactly(seed, size)
			more := slices.Clone(records)
			more[0] = noise(3, len(records[0])+1)
			unchanged(t, d, j, api.ErrFull, func() api.Errno { return j.Replace(more...) })
			unchanged(t, d, j, api.ErrFull, func() api.Errno { return j.Replace(append([][]byte{nil}, records...)...) })
			is(t, "Replace", j.Replace(records...), api.OK)
			room(t, j, 0)
			open(t, d, records...)
		}
	}
}

// P4.2: records without bytes take five bytes each.
func TestEmptyRecords(t *testing.T) {
	d := create(t, 6)
	j := open(t, d)
	for n := range 102 {
		room(t, j, 512-5*n)
		record := []byte{}
		if n%2 == 0 {
			record = nil
		}
		is(t, "Add", j.Add(record), api.OK)
	}
	unchanged(t, d, j, api.ErrFull, func() api.Errno { return j.Add(nil) })
	j = open(t, d, slices.Repeat(list(""), 102)...)
	is(t, "Replace", j.Replace(nil, []byte{}), api.OK)
	open(t, d, nil, nil)
}

// P4.2: a record of 65531 bytes, and one of 65532, which is ErrLong also where other records come before it, or there is no space.
func TestLongRecords(t *testing.T) {
	d := create(t, 1600)
	j := open(t, d)
	longest, longer := noise(1, 65531), noise(2, 65532)
	is(t, "Add", j.Add(longest), api.OK)
	room(t, j, 799*256-65538)
	is(t, "Add", j.Add([]byte("a"), longest), api.OK)
	records := [][]byte{longest, []byte("a"), longest}
	j = open(t, d, records...)
	for _, call := range []func(...[]byte) api.Errno{j.Add, j.Replace} {
		for _, l := range [][][]byte{
			{longer}, {noise(3, 65536)}, {noise(3, 70000)}, {nil, longer}, {longer, nil}, {longest, longest, longest, longest, longer},
		} {
			unchanged(t, d, j, api.ErrLong, func() api.Errno { return call(l...) })
		}
		unchanged(t, d, j, api.ErrFull, func() api.Errno { return call(longest, longest, longest, longest) })
	}
	is(t, "Replace", j.Replace(longest, longest), api.OK)
	open(t, d, longest, longest)
	small := create(t, 6)
	j = open(t, small)
	unchanged(t, small, j, api.ErrLong, func() api.Errno { return j.Add(longer) })
	unchanged(t, small, j, api.ErrLong, func() api.Errno { return j.Replace(longer) })
	unchanged(t, small, j, api.ErrFull, func() api.Errno { return j.Add(longest) })
	unchanged(t, small, j, api.ErrFull, func() api.Errno { return j.Replace(longest) })
}

// P1: far more records than there is space for are refused at once.
func TestFarTooMany(t *testing.T) {
	d := create(t, 4096)
	j := open(t, d)
	l := slices.Repeat([][]byte{noise(1, 65531)}, 30000)
	unchanged(t, d, j, api.ErrFull, func() api.Errno { return j.Add(l...) })
	unchanged(t, d, j, api.ErrFull, func() api.Errno { return j.Replace(l...) })
	l = append(l, noise(2, 65532))
	unchanged(t, d, j, api.ErrLong, func() api.Errno { return j.Add(l...) })
	unchanged(t, d, j, api.ErrLong, func() api.Errno { return j.Replace(l...) })
}

// P4.2: the number 2^62 is the last one.
func TestLastNumber(t *testing.T) {
	for _, replace := range []bool{false, true} {
		d := create(t, 6)
		fill(t, d, 0, stored([]byte("ab")))
		set(t, d, 1, tally(1<<62-1, 0, 7))
		j, want := open(t, d, []byte("ab")), list("ab", "c")
		if replace {
			want = list("c")
			is(t, "Replace", j.Replace([]byte("c")), api.OK)
		} else {
			is(t, "Add", j.Add([]byte("c")), api.OK)
		}
		for range 2 {
			unchanged(t, d, j, api.ErrFull, func() api.Errno { return j.Add([]byte("d")) })
			unchanged(t, d, j, api.ErrFull, func() api.Errno { return j.Replace([]byte("d")) })
			unchanged(t, d, j, api.ErrFull, func() api.Errno { return j.Replace() })
			unchanged(t, d, j, api.OK, func() api.Errno { return j.Add() })
			unchanged(t, d, j, api.ErrLong, func() api.Errno { return j.Add(noise(1, 65532)) })
			unchanged(t, d, j, api.ErrLong, func() api.Errno { return j.Replace(noise(1, 65532)) })
			j = open(t, d, want...)
		}
	}
}

// P4.2: an Add without records writes nothing, wherever the journal stands.
func TestAddNothing(t *testing.T) {
	d := create(t, 6)
	j := open(t, d)
	for range 5 {
		unchanged(t, d, j, api.OK, func() api.Errno { return j.Add() })
		unchanged(t, d, j, api.OK, func() api.Errno { return j.Add([][]byte{}...) })
		is(t, "Add", j.Add(noise(1, 95)), api.OK)
	}
	d.Cut(none())
	is(t, "Add() with the power off", j.Add(), api.OK)
	tells(t, j, false, 5)
}

// P4.2, rule 1: with the power off, what is named ahead of ErrDown comes first, and doesn't break the journal.
func TestWhichErrorComesFirst(t *testing.T) {
	for _, replace := range []bool{false, true} {
		d := create(t, 6)
		j := open(t, d)
		is(t, "Add", j.Add([]byte("ab")), api.OK)
		call := j.Add
		if replace {
			call = j.Replace
		}
		changes := d.Changes()
		d.Cut(none())
		is(t, "a record too long", call(nil, noise(1, 65532)), api.ErrLong)
		is(t, "records too many", call(noise(1, 400), noise(1, 400)), api.ErrFull)
		tells(t, j, false, 1)
		is(t, "with the power off", call([]byte("c")), api.ErrDown)
		tells(t, j, true, 1)
		is(t, "of a broken journal", call([]byte("c")), api.ErrState)
		is(t, "of a broken journal, a record too long", call(noise(1, 65532)), api.ErrState)
		is(t, "of a broken journal, records too many", call(noise(1, 400), noise(1, 400)), api.ErrState)
		is(t, "of a broken journal, without records", call(), api.ErrState)
		if d.Changes() != changes || !d.Off() {
			t.Error("the device was changed")
		}
		on(t, d)
		open(t, d, []byte("ab"))
	}
	d := create(t, 6)
	j := open(t, d)
	d.Cut(none())
	is(t, "Replace() with the power off", j.Replace(), api.ErrDown)
	tells(t, j, true, 0)
}

// P4.2: a journal whose call found the power off, or lost it, is broken from then on.
func TestBroken(t *testing.T) {
	for cut := -1; cut < 5; cut++ {
		for _, replace := range []bool{false, true} {
			d := create(t, 8)
			j := open(t, d)
			is(t, "Add", j.Add(noise(1, 100), noise(2, 200)), api.OK)
			free, call := j.Room(), j.Add
			if replace {
				call = j.Replace
			}
			if d.Plan(cut, api.Choice{Kept: []int{0, 1}}); cut < 0 {
				d.Cut(none())
			}
			is(t, "a call that is cut", call(noise(3, 300)), api.ErrDown)
			for range 2 {
				tells(t, j, true, 2)
				room(t, j, free)
				is(t, "Add", j.Add([]byte("a")), api.ErrState)
				is(t, "Add()", j.Add(), api.ErrState)
				is(t, "Replace", j.Replace([]byte("a")), api.ErrState)
				is(t, "Replace()", j.Replace(), api.ErrState)
				d.On()
			}
			all, changes := image(t, d), d.Changes()
			is(t, "Add", j.Add([]byte("a")), api.ErrState)
			if sameImage(t, d, all); d.Changes() != changes {
				t.Error("a broken journal changed its device")
			}
			if again, _, e := journal.Open(d); e != api.OK || again.Broken() || again.Add() != api.OK {
				t.Errorf("the device can't be opened again: %d", e)
			}
		}
	}
}

// P4.2: a loss of power between two calls breaks nothing, if it is over by the next one.
func TestOffBetweenCalls(t *testing.T) {
	d := create(t, 8)
	j := open(t, d)
	var want [][]byte
	for n := range 9 {
		d.Cut(none())
		tells(t, j, false, len(want))
		room(t, j, 768-len(stored(want...)))
		on(t, d)
		record := noise(uint32(n), 60)
		is(t, "Add", j.Add(record), api.OK)
		want = append(want, record)
	}
	d.Cut(none())
	on(t, d)
	open(t, d, want...)
	is(t, "Replace", j.Replace(want[:3]...), api.OK)
	open(t, d, want[:3]...)
}

// P4.2: a nil journal.
func TestNilJournal(t *testing.T) {
	var j *journal.Journal
	for _, l := range [][][]byte{nil, list("a"), {noise(1, 65532)}, {noise(1, 65531), nil}} {
		is(t, "Add", j.Add(l...), api.ErrState)
		is(t, "Replace", j.Replace(l...), api.ErrState)
	}
	tells(t, j, true, 0)
	room(t, j, 0)
}

// P1: no call of a journal that was never opened panics.
func TestZeroJournal(t *testing.T) {
	for _, records := range [][][]byte{nil, list("a"), {noise(1, 65532)}} {
		first, second := &journal.Journal{}, &journal.Journal{}
		first.Add(records...)
		second.Replace(records...)
		for _, j := range []*journal.Journal{first, second} {
			j.Broken()
			if j.Len() != 0 || j.Room() != 0 {
				t.Errorf("Len() = %d, Room() = %d", j.Len(), j.Room())
			}
		}
	}
}
