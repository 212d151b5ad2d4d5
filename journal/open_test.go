package journal_test

import (
	"bytes"
	"math"
	"slices"
	"testing"

	"wardship/api"
	"wardship/journal"
)

// P4.1: no device, or one of fewer than six sectors, is refused, also if its power is off.
func TestOpenRefused(t *testing.T) {
	openFails(t, nil, api.ErrArg)
	for n := 1; n < 6; n++ {
		d := create(t, n)
		openFails(t, d, api.ErrArg)
		set(t, d, 0, tally(2, 0, 0))
		want, changes := image(t, d), d.Changes()
		openFails(t, d, api.ErrArg)
		sameImage(t, d, want)
		d.Cut(none())
		openFails(t, d, api.ErrArg)
		if d.Changes() != changes || !d.Off() {
			t.Error("a device that is refused was changed")
		}
	}
}

// P4.1: a device whose power is off.
func TestOpenDown(t *testing.T) {
	for _, n := range []int{6, 7, 4096} {
		d := create(t, n)
		d.Cut(none())
		openFails(t, d, api.ErrDown)
		if d.Changes() != 0 || !d.Off() {
			t.Error("a device that is off was changed")
		}
		on(t, d)
		j := open(t, d)
		is(t, "Add", j.Add([]byte("a")), api.OK)
		d.Cut(none())
		openFails(t, d, api.ErrDown)
		on(t, d)
		open(t, d, []byte("a"))
	}
}

// P4.1: the power is lost while the first tally is written.
func TestOpenCut(t *testing.T) {
	for cut := range 2 {
		for _, c := range []api.Choice{none(), {Kept: []int{0}}, {Torn: 0, Half: 63}, {Torn: 0, Half: 64}} {
			d := create(t, 6)
			d.Plan(cut, c)
			openFails(t, d, api.ErrDown)
			if d.Changes() != cut+1 {
				t.Errorf("%d changes, want %d", d.Changes(), cut+1)
			}
			openFails(t, d, api.ErrDown)
			on(t, d)
			j := open(t, d)
			is(t, "Add", j.Add([]byte("a")), api.OK)
			open(t, d, []byte("a"))
		}
	}
}

// P4.1: a device with a valid tally is only read.
func TestOpenWritesNothing(t *testing.T) {
	d := noisy(t, 8)
	j := open(t, d)
	for _, records := range [][][]byte{nil, list("a"), list("b", "")} {
		is(t, "Replace", j.Replace(records...), api.OK)
		want, changes := image(t, d), d.Changes()
		open(t, d, records...)
		open(t, d, records...)
		d.Plan(0, none())
		open(t, d, records...)
		d.Plan(-1, none())
		if d.Changes() != changes || d.Off() {
			t.Error("Open changed the device")
		}
		sameImage(t, d, want)
	}
}

// P4.1, Form: the current tally is the one with the greater number, in whichever sector; that of sector 0 if both have the same.
func TestCurrentTally(t *testing.T) {
	const greatest = 1 << 62
	for _, c := range []struct {
		first, second uint64
		sector        int
	}{
		{1, 2, 1}, {2, 1, 0}, {3, 2, 0}, {2, 3, 1}, {255, 256, 1}, {256, 255, 0}, {256, 257, 1}, {1 << 32, 1<<32 - 1, 0},
		{1, 100, 1}, {100, 1, 0}, {3, 5, 1}, {8, 4, 0},
		{1, 1, 0}, {2, 2, 0}, {77, 77, 0}, {greatest, greatest, 0},
		{greatest, greatest - 1, 0}, {greatest - 1, greatest, 1}, {1, greatest, 1},
		{0, 1, 1}, {1, 0, 0}, {greatest + 1, 1, 1}, {3, greatest + 1, 0}, {math.MaxUint64, 2, 1},
	} {
		d := noisy(t, 6)
		records := [2][][]byte{list("zero", "0"), list("one")}
		for i, number := range []uint64{c.first, c.second} {
			set(t, d, i, tally(number, uint64(i), uint64(len(stored(records[i]...)))))
			fill(t, d, i, stored(records[i]...))
		}
		open(t, d, records[c.sector]...)
	}
}

// Form: the number after the current one decides which sector comes next, also where that is the current tally's own.
func TestNextTally(t *testing.T) {
	for _, c := range []struct {
		first, second uint64
	}{{7, 7}, {8, 8}, {7, 3}, {3, 8}, {7, 0}, {0, 8}} {
		for _, replace := range []bool{false, true} {
			d := create(t, 6)
			set(t, d, 0, tally(c.first, 0, 0))
			set(t, d, 1, tally(c.second, 0, 0))
			want := image(t, d)
			j, call, side := open(t, d), (*journal.Journal).Add, uint64(0)
			if replace {
				call, side = (*journal.Journal).Replace, 1
			}
			is(t, "a call", call(j, []byte("ab")), api.OK)
			number := max(c.first, c.second) + 1
			want[number%2] = tally(number, side, 7)
			want[2+2*side] = sector(stored([]byte("ab")))
			sameImage(t, d, want)
			open(t, d, []byte("ab"))
		}
	}
}

// noJournal checks that a device with such a sector as its only tally has no valid one: a first tally is written.
func noJournal(t *testing.T, b []byte) {
	t.Helper()
	for i := range 2 {
		d := create(t, 6)
		fill(t, d, 0, stored([]byte("ab")))
		set(t, d, i, b)
		want := image(t, d)
		room(t, open(t, d), 512)
		want[1] = tally(1, 0, 0)
		sameImage(t, d, want)
	}
}

// Form: a tally of which one byte was changed is not valid, because its copies, or their strings, differ.
func TestChangedTally(t *testing.T) {
	for i := range 64 {
		for _, change := range []byte{1, 2, 3, 7, 128, 255} {
			b := tally(6, 0, 7)
			b[i] ^= change
			noJournal(t, b)
		}
	}
}

// Form: a copy that has one number otherwise than the other copy, each number in turn.
func TestCopiesDiffer(t *testing.T) {
	good := tally(6, 0, 7)
	for _, other := range [][]byte{tally(5, 0, 7), tally(7, 0, 7), tally(6, 1, 7), tally(6, 0, 0), tally(6, 0, 5)} {
		noJournal(t, append(slices.Clone(good[:32]), other[32:]...))
		noJournal(t, append(slices.Clone(other[:32]), good[32:]...))
		for half := range 64 {
			b := append(slices.Clone(other[:half]), good[half:]...)
			if !bytes.Equal(b, good) && !bytes.Equal(b[:64], other[:64]) {
				noJournal(t, b)
			}
		}
	}
}

// Form: tallies whose numbers are none that a tally may have.
func TestInvalidTallies(t *testing.T) {
	for _, b := range [][]byte{
		tally(0, 0, 0),
		tally(0, 0, 7),
		tally(1<<62+1, 0, 7),
		tally(1<<63, 0, 7),
		tally(math.MaxUint64, 0, 7),
		tally(6, 2, 7),
		tally(6, 256, 7),
		tally(6, 1<<32, 7),
		tally(6, 1<<63, 7),
		tally(6, math.MaxUint64, 7),
		tally(6, 0, 513),
		tally(6, 1, 513),
		tally(6, 0, 768),
		tally(6, 0, 1<<32),
		tally(6, 0, 1<<32+7),
		tally(6, 0, 1<<63),
		tally(6, 0, 1<<63+7),
		tally(6, 0, math.MaxUint64),
	} {
		noJournal(t, b)
	}
}

// Form: sectors that look like a tally, but aren't in its form.
func TestNoTallies(t *testing.T) {
	good := tally(6, 0, 7)
	first, second := good[:32], good[32:64]
	for _, b := range [][]byte{
		nil,
		first,
		append(make([]byte, 32), second...),
		append(slices.Clone(first), first...),
		append(slices.Clone(second), second...),
		append(slices.Clone(second), first...),
		append([]byte{0}, good[:64]...),
		bytes.ReplaceAll(good[:64], []byte("wardship"), []byte("Wardship")),
		bytes.ReplaceAll(good[:64], []byte("wardship"), []byte("wardshiq")),
		bytes.ReplaceAll(good[:64], []byte("wardship"), make([]byte, 8)),
	} {
		noJournal(t, sector(b))
	}
	noJournal(t, noise(1, api.Sector))
	little := tally(6, 0, 7)
	for i := 8; i < 64; i += 8 {
		if i != 32 {
			slices.Reverse(little[i : i+8])
		}
	}
	noJournal(t, little)
}

// Form: what follows the 64 bytes of a tally doesn't matter.
func TestBehindTally(t *testing.T) {
	for i := range 2 {
		b := tally(6, 1, 7)
		copy(b[64:], noise(1, 192))
		d := noisy(t, 7)
		set(t, d, i, b)
		fill(t, d, 1, stored([]byte("ab")))
		room(t, open(t, d, []byte("ab")), 505)
	}
}

// P4.1: the bytes in use are read, and none behind them, up to the last one of the side.
func TestOpenReads(t *testing.T) {
	for _, records := range [][][]byte{
		nil, list(""), list("ab"), list("", "", "a"),
		{noise(1, 249)}, {noise(1, 250)}, {noise(1, 251)}, {noise(1, 252)}, {noise(1, 300), nil, noise(2, 12)},
		{noise(1, 505)}, {noise(1, 245), noise(2, 255)}, {noise(1, 500), nil}, slices.Repeat(list(""), 102),
	} {
		for side := range 2 {
			d := noisy(t, 7)
			b := stored(records...)
			fill(t, d, side, b)
			set(t, d, 0, tally(4, uint64(side), uint64(len(b))))
			room(t, open(t, d, records...), 512-len(b))
		}
	}
}

// P4.1: bytes in use that are no valid field are ErrForm, and ones that aren't sealed ErrSum; the first field with an error decides.
func TestOpenOfWrongBytes(t *testing.T) {
	good := stored([]byte("ab"))
	wrong := bytes.Clone(good)
	wrong[6]++
	for _, c := range []struct {
		b    []byte
		want api.Errno
	}{
		{[]byte{1}, api.ErrForm},             // the field is missing
		{good[:6], api.ErrForm},              // its last byte is missing
		{[]byte{255}, api.ErrForm},           // the length is cut
		{[]byte{255, 1}, api.ErrForm},        // the length is cut
		{[]byte{255, 0, 254}, api.ErrForm},   // a length in three bytes that fits in one
		{[]byte{255, 0, 0}, api.ErrForm},     // so is this
		{[]byte{255, 1, 0, 0}, api.ErrForm},  // the field is cut
		{[]byte{255, 255, 255}, api.ErrForm}, // so is this
		{[]byte{0}, api.ErrSum},              // no checksum
		{[]byte{1, 1}, api.ErrSum},           // less than one
		{[]byte{3, 0, 0, 1}, api.ErrSum},     // less than one
		{[]byte{4, 0, 0, 0, 0}, api.ErrSum},  // a wrong one of no bytes
		{wrong, api.ErrSum},
		{[]byte("\x06ac\x01\x26\x00\xc4"), api.ErrSum},
		{append([]byte{0}, 9), api.ErrSum},
		{append([]byte{9}, 0), api.ErrForm},
		{append(bytes.Clone(wrong), 9), api.ErrSum},
		{append(bytes.Clone(wrong), good...), api.ErrSum},
	} {
		for side := range 2 {
			for _, before := range [][]byte{nil, good, stored(list("", "a", "b")...), stored(noise(1, 255))} {
				d := create(t, 6)
				b := slices.Concat(before, c.b)
				fill(t, d, side, b)
				set(t, d, 1, tally(9, uint64(side), uint64(len(b))))
				want, changes := image(t, d), d.Changes()
				openFails(t, d, c.want)
				openFails(t, d, c.want)
				if sameImage(t, d, want); d.Changes() != changes {
					t.Error("Open changed the device")
				}
			}
		}
	}
}

// P4.1: a changed byte among the bytes in use never goes unnoticed; one behind them does.
func TestOpenOfChangedBytes(t *testing.T) {
	records := list("abc", "", "defghij")
	b := stored(records...)
	for i := range b {
		for _, change := range []byte{1, 16, 255} {
			d := create(t, 6)
			changed := bytes.Clone(b)
			changed[i] ^= change
			fill(t, d, 0, changed)
			set(t, d, 1, tally(9, 0, uint64(len(b))))
			if j, got, e := journal.Open(d); j != nil || len(got) != 0 || e != api.ErrForm && e != api.ErrSum {
				t.Errorf("byte %d changed: Open = %v, %q, %d", i, j, got, e)
			}
			fill(t, d, 0, append(bytes.Clone(b), changed[i]))
			open(t, d, records...)
		}
	}
}

// P4.1: a tally that counts fewer, or more, bytes than there are records.
func TestTallyOfOtherSize(t *testing.T) {
	records := list("ab", "c")
	b := stored(records...)
	for used := range 20 {
		d := create(t, 6)
		fill(t, d, 0, b)
		set(t, d, 0, tally(2, 0, uint64(used)))
		switch {
		case used == 0 || used == 7 || used == 13:
			open(t, d, records[:used/6]...)
		case used < 13:
			openFails(t, d, api.ErrForm)
		default: // the zeros are fields without a checksum
			openFails(t, d, api.ErrSum)
		}
	}
}
