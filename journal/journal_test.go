package journal_test

import (
	"bytes"
	"encoding/binary"
	"hash/adler32"
	"slices"
	"testing"

	"wardship/api"
	"wardship/device"
	"wardship/journal"
)

// noise is so many bytes that a plain rule makes of a seed.
func noise(seed uint32, n int) []byte {
	b := make([]byte, n)
	for i := range b {
		seed = seed*1664525 + 1013904223
		b[i] = byte(seed >> 24)
	}
	return b
}

// list is texts as records.
func list(texts ...string) [][]byte {
	var records [][]byte
	for _, text := range texts {
		records = append(records, []byte(text))
	}
	return records
}

// field is a length and the bytes behind it.
func field(b []byte) []byte {
	if len(b) < 255 {
		return append([]byte{byte(len(b))}, b...)
	}
	return append([]byte{255, byte(len(b) / 256), byte(len(b) % 256)}, b...)
}

// stored is the bytes of records on a side.
func stored(records ...[]byte) []byte {
	var b []byte
	for _, record := range records {
		sealed := binary.BigEndian.AppendUint32(slices.Clone(record), adler32.Checksum(record))
		b = append(b, field(sealed)...)
	}
	return b
}

// sector is bytes with zeros behind them.
func sector(b []byte) []byte {
	return append(slices.Clone(b), make([]byte, api.Sector-len(b))...)
}

// tally is the sector of a tally.
func tally(number, side, used uint64) []byte {
	b := []byte("wardship")
	for _, n := range []uint64{number, side, used} {
		b = binary.BigEndian.AppendUint64(b, n)
	}
	b = append(b, "wardship"...)
	for _, n := range []uint64{side, used, number} {
		b = binary.BigEndian.AppendUint64(b, n)
	}
	return sector(b)
}

// sideOf is the first sector of a side, and how many bytes the side has.
func sideOf(sectors, side int) (start, size int) {
	half := (sectors - 2) / 2
	return 2 + side*half, half * 256
}

// create is a device of so many sectors.
func create(t testing.TB, sectors int) *device.Device {
	t.Helper()
	d, e := device.New(sectors)
	if e != api.OK {
		t.Fatalf("New(%d) = %d", sectors, e)
	}
	return d
}

// noisy is a device whose sectors all have noise, but those of its tallies.
func noisy(t testing.TB, sectors int) *device.Device {
	t.Helper()
	d := create(t, sectors)
	for i := 2; i < sectors; i++ {
		set(t, d, i, noise(uint32(i), api.Sector))
	}
	return d
}

// set makes a sector's bytes durable.
func set(t testing.TB, d *device.Device, i int, b []byte) {
	t.Helper()
	if e := d.Write(i, b); e != api.OK {
		t.Fatalf("Write(%d) = %d", i, e)
	}
	if e := d.Barrier(); e != api.OK {
		t.Fatalf("Barrier() = %d", e)
	}
}

// fill makes bytes durable on a side, from its first sector on, and leaves what follows them.
func fill(t testing.TB, d *device.Device, side int, b []byte) {
	t.Helper()
	at, _ := sideOf(d.Size(), side)
	for ; len(b) > 0; at++ {
		whole := read(t, d, at)
		n := copy(whole, b)
		set(t, d, at, whole)
		b = b[n:]
	}
}

// read is a sector's bytes.
func read(t testing.TB, d *device.Device, i int) []byte {
	t.Helper()
	b, e := d.Read(i)
	if e != api.OK {
		t.Fatalf("Read(%d) = %d", i, e)
	}
	return b
}

// image is the bytes of all sectors.
func image(t testing.TB, d *device.Device) [][]byte {
	t.Helper()
	var all [][]byte
	for i := range d.Size() {
		all = append(all, read(t, d, i))
	}
	return all
}

// laid is a device with the bytes of all its sectors, durable.
func laid(t testing.TB, all [][]byte) *device.Device {
	t.Helper()
	d := create(t, len(all))
	for i, b := range all {
		if e := d.Write(i, b); e != api.OK {
			t.Fatalf("Write(%d) = %d", i, e)
		}
	}
	if e := d.Barrier(); e != api.OK {
		t.Fatalf("Barrier() = %d", e)
	}
	return d
}

// sameImage checks the bytes of all sectors.
func sameImage(t testing.TB, d *device.Device, want [][]byte) {
	t.Helper()
	for i, b := range image(t, d) {
		if !bytes.Equal(b, want[i]) {
			t.Fatalf("sector %d has %q, want %q", i, b, want[i])
		}
	}
}

// sameRecords tells whether two lists have the same records.
func sameRecords(a, b [][]byte) bool { return slices.EqualFunc(a, b, bytes.Equal) }

// open is the journal on a device, which must have these records.
func open(t testing.TB, d *device.Device, want ...[]byte) *journal.Journal {
	t.Helper()
	j, got, e := journal.Open(d)
	if j == nil || e != api.OK || !sameRecords(got, want) {
		t.Fatalf("Open = %v, %q, %d, want %q", j, got, e, want)
	}
	tells(t, j, false, len(want))
	return j
}

// openFails checks that a device can't be opened.
func openFails(t testing.TB, d *device.Device, want api.Errno) {
	t.Helper()
	if j, got, e := journal.Open(d); j != nil || len(got) != 0 || e != want {
		t.Fatalf("Open = %v, %q, %d, want nil, none, %d", j, got, e, want)
	}
}

// tells checks what a journal tells of itself.
func tells(t testing.TB, j *journal.Journal, broken bool, count int) {
	t.Helper()
	if j.Broken() != broken || j.Len() != count {
		t.Fatalf("Broken() = %v, Len() = %d, want %v, %d", j.Broken(), j.Len(), broken, count)
	}
}

// room checks how many bytes are free.
func room(t testing.TB, j *journal.Journal, want int) {
	t.Helper()
	if got := j.Room(); got != want {
		t.Fatalf("Room() = %d, want %d", got, want)
	}
}

// is checks an error's number.
func is(t testing.TB, what string, got, want api.Errno) {
	t.Helper()
	if got != want {
		t.Fatalf("%s = %d, want %d", what, got, want)
	}
}

// none is a choice that leaves nothing.
func none() api.Choice { return api.Choice{Torn: -1} }

// on turns the power on, which must have been off.
func on(t testing.TB, d *device.Device) {
	t.Helper()
	if !d.On() {
		t.Fatal("the power wasn't off")
	}
}

// The chapter's example.
func TestExample(t *testing.T) {
	d := create(t, 6)
	j := open(t, d)
	room(t, j, 512)
	is(t, "Add", j.Add([]byte("ab")), api.OK)
	room(t, j, 505)
	tells(t, j, false, 1)
	if b := read(t, d, 2); !bytes.Equal(b, sector([]byte("\x06ab\x01\x26\x00\xc4"))) {
		t.Errorf("the record is stored as %q", b)
	}
	open(t, d, []byte("ab"))
}

// P4.2: records stand in the order in which they were added, and a Replace leaves only its own.
func TestAddAndReplace(t *testing.T) {
	for _, sectors := range []int{6, 7, 8, 21, 4096} {
		d := create(t, sectors)
		_, size := sideOf(sectors, 0)
		j := open(t, d)
		var want [][]byte
		for n, call := range []struct {
			replace bool
			records [][]byte
		}{
			{false, list("a")},
			{false, list("b", "", "a")},
			{true, list("c", "d")},
			{false, list("e")},
			{true, nil},
			{false, list("", "")},
			{true, list("f")},
			{true, list("f")},
			{false, [][]byte{noise(1, 100), noise(2, 150)}},
			{true, [][]byte{noise(3, 200)}},
			{false, [][]byte{noise(4, 250)}},
		} {
			if call.replace {
				is(t, "Replace", j.Replace(call.records...), api.OK)
				want = nil
			} else {
				is(t, "Add", j.Add(call.records...), api.OK)
			}
			want = append(want, call.records...)
			tells(t, j, false, len(want))
			room(t, j, size-len(stored(want...)))
			again := open(t, d, want...)
			room(t, again, j.Room())
			if n%3 == 2 { // one that was opened goes on as the other one would
				j = again
			}
		}
	}
}
