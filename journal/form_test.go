package journal_test

import (
	"bytes"
	"testing"

	"wardship/api"
	"wardship/device"
	"wardship/journal"
)

// Form, P4.1: on a device without a journal the tally 1 is written, whole, and nothing else.
func TestFirstTally(t *testing.T) {
	for _, sectors := range []int{6, 7, 8, 9, 20, 21, 4095, 4096} {
		d := noisy(t, sectors)
		set(t, d, 0, noise(7, api.Sector))
		set(t, d, 1, noise(8, api.Sector))
		want, changes := image(t, d), d.Changes()
		j := open(t, d)
		_, size := sideOf(sectors, 0)
		room(t, j, size)
		want[1] = tally(1, 0, 0)
		sameImage(t, d, want)
		if d.Changes() != changes+2 || d.Loose() != 0 {
			t.Errorf("%d changes, %d loose writes, want 2 and 0", d.Changes()-changes, d.Loose())
		}
		open(t, d)
		sameImage(t, d, want)
	}
}

// Form: side 0 is the first half of the sectors behind the tallies, side 1 the second one; an odd sector isn't used.
func TestSides(t *testing.T) {
	for _, sectors := range []int{6, 7, 8, 9, 20, 21, 4095, 4096} {
		d := noisy(t, sectors)
		want := image(t, d)
		want[1] = tally(1, 0, 0)
		j := open(t, d)
		for number := uint64(2); number < 6; number++ {
			side := int(1 - number%2)
			start, size := sideOf(sectors, side)
			records := filling(uint32(number), size)
			is(t, "Replace", j.Replace(records...), api.OK)
			room(t, j, 0)
			for b := stored(records...); len(b) > 0; b = b[api.Sector:] {
				want[start] = b[:api.Sector]
				start++
			}
			want[number%2] = tally(number, uint64(side), uint64(size))
			sameImage(t, d, want)
			open(t, d, records...)
		}
	}
}

// filling is records that take so many bytes, none of them long.
func filling(seed uint32, size int) [][]byte {
	var records [][]byte
	for ; size > 512; size -= 206 {
		seed++
		records = append(records, noise(seed, 201))
	}
	return append(records, exactly(seed+1, size)...)
}

// Form: the tally t is written to the sector t modulo 2, so that the one before it stays.
func TestTallySectors(t *testing.T) {
	d := create(t, 10)
	set(t, d, 0, noise(1, api.Sector))
	set(t, d, 1, noise(2, api.Sector))
	j := open(t, d)
	at := [2][]byte{noise(1, api.Sector), tally(1, 0, 0)}
	side, used := uint64(0), uint64(0)
	for number := uint64(2); number < 40; number++ {
		if number%5 == 4 {
			is(t, "Replace", j.Replace(noise(3, 40)), api.OK)
			side, used = 1-side, 45
		} else {
			is(t, "Add", j.Add(noise(4, 60), nil), api.OK)
			used += 70
		}
		at[number%2] = tally(number, side, used)
		for i, want := range at {
			if b := read(t, d, i); !bytes.Equal(b, want) {
				t.Fatalf("tally %d: sector %d has %q, want %q", number, i, b, want)
			}
		}
	}
}

// Form: a record is sealed, and stored as a field, whose length takes three bytes from 255 on.
func TestStoredRecords(t *testing.T) {
	for _, n := range []int{0, 1, 2, 249, 250, 251, 252, 255, 256, 257, 511, 1000, 65530, 65531} {
		d := create(t, 1000)
		j := open(t, d)
		record := noise(uint32(n), n)
		is(t, "Add", j.Add(record), api.OK)
		var b []byte
		for i := range 400 {
			b = append(b, read(t, d, 2+i)...)
		}
		want := stored(record)
		if !bytes.Equal(b[:len(want)], want) || len(bytes.Trim(b[len(want):], "\x00")) != 0 {
			t.Errorf("a record of %d bytes is stored as another one", n)
		}
		size := n + 5
		if n+4 >= 255 {
			size = n + 7
		}
		room(t, j, 499*256-size)
		open(t, d, record)
	}
}

// written is what the next call of a journal on d writes: bytes behind those in use of a side, with zeros behind them, and a tally.
func written(d *device.Device, side int, inUse, b []byte, number uint64) []step {
	at, _ := sideOf(d.Size(), side)
	at += len(inUse) / api.Sector
	all := append(bytes.Clone(inUse[len(inUse)/api.Sector*api.Sector:]), b...)
	var steps []step
	for ; len(all) > 0; at++ {
		n := min(len(all), api.Sector)
		steps = append(steps, step{at, sector(all[:n])})
		all = all[n:]
	}
	used := uint64(len(inUse) + len(b))
	return append(steps, step{at: -1}, step{int(number % 2), tally(number, uint64(side), used)}, step{at: -1})
}

// step is a change of a device: a write, or, at -1, a barrier.
type step struct {
	at int
	b  []byte
}

// after is what is durable if the power is cut at the change with the number cut, and all loose writes stay, or none.
func after(before [][]byte, steps []step, cut int, stay bool) [][]byte {
	sure := append([][]byte(nil), before...)
	last := append([][]byte(nil), before...)
	for n, s := range steps {
		if n == cut {
			if s.at >= 0 {
				last[s.at] = s.b
			}
			if stay {
				return last
			}
			return sure
		}
		if s.at < 0 {
			copy(sure, last)
		} else {
			last[s.at] = s.b
		}
	}
	return sure
}

// inOrder checks that a call makes these changes, one after the other: it cuts the power at each of them, and looks what there is.
func inOrder(t *testing.T, before [][]byte, steps []step, call func(d *device.Device) api.Errno) {
	t.Helper()
	for cut := range len(steps) + 1 {
		for _, stay := range []bool{false, true} {
			d := laid(t, before)
			c := none()
			if stay {
				for n := range steps {
					c.Kept = append(c.Kept, n)
				}
			}
			d.Plan(cut, c)
			e := call(d)
			want := api.ErrDown
			if cut == len(steps) {
				want = api.OK
				d.Cut(none())
			}
			is(t, "a call that is cut", e, want)
			on(t, d)
			sameImage(t, d, after(before, steps, cut, stay))
		}
	}
}

// What is written: the sectors with new bytes, whole and in order, a barrier, the tally, a barrier.
func TestWhatIsWritten(t *testing.T) {
	for _, sectors := range []int{14, 15} {
		for _, old := range []int{0, 7, 100, 256 - 7, 256, 257, 700, 768} {
			for _, added := range []int{5, 49, 156, 160, 255, 256, 257, 512, 600, 768} {
				d := noisy(t, sectors)
				inUse, b := exactly(1, old), exactly(2, added)
				fill(t, d, 1, stored(inUse...))
				set(t, d, 0, tally(8, 1, uint64(old)))
				before := image(t, d)
				steps := written(d, 0, nil, stored(b...), 9)
				inOrder(t, before, steps, func(d *device.Device) api.Errno {
					return open(t, d, inUse...).Replace(b...)
				})
				if old+added > 6*256 {
					continue
				}
				steps = written(d, 1, stored(inUse...), stored(b...), 9)
				inOrder(t, before, steps, func(d *device.Device) api.Errno {
					return open(t, d, inUse...).Add(b...)
				})
			}
		}
	}
}

// exactly is records that take so many bytes: none, or five at least.
func exactly(seed uint32, size int) [][]byte {
	switch {
	case size == 0:
		return nil
	case size <= 255:
		return [][]byte{noise(seed, size-5)}
	case size < 300: // no record alone takes 256 or 257
		return [][]byte{noise(seed, 20), noise(seed+1, size-30)}
	}
	return [][]byte{noise(seed, size-7)}
}

// What is written: a Replace without records is a barrier, the tally, and a barrier.
func TestReplaceByNothing(t *testing.T) {
	d := noisy(t, 9)
	records := list("a", "b")
	fill(t, d, 0, stored(records...))
	set(t, d, 1, tally(255, 0, uint64(len(stored(records...)))))
	before := image(t, d)
	steps := []step{{at: -1}, {0, tally(256, 1, 0)}, {at: -1}}
	inOrder(t, before, steps, func(d *device.Device) api.Errno {
		return open(t, d, records...).Replace()
	})
	j := open(t, laid(t, before), records...)
	is(t, "Replace()", j.Replace(), api.OK)
	tells(t, j, false, 0)
	room(t, j, 768)
}

// What is written: the first tally is a write and a barrier.
func TestFirstTallyInOrder(t *testing.T) {
	d := noisy(t, 6)
	inOrder(t, image(t, d), []step{{1, tally(1, 0, 0)}, {at: -1}}, func(d *device.Device) api.Errno {
		_, _, e := journal.Open(d)
		return e
	})
}
