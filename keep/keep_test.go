package keep_test

import (
	"bytes"
	"encoding/binary"
	"hash/adler32"
	"maps"
	"math"
	"math/big"
	"slices"
	"testing"

	"wardship/api"
	"wardship/device"
	"wardship/journal"
	"wardship/keep"
)

// contents is what a store should have.
type contents map[uint64]string

// after is the contents once some changes were made.
func (c contents) after(l ...api.Put) contents {
	next := maps.Clone(c)
	if next == nil {
		next = contents{}
	}
	for _, p := range l {
		delete(next, p.Key)
		if !p.Gone {
			next[p.Key] = string(p.Val)
		}
	}
	return next
}

// keys is all keys, rising.
func (c contents) keys() []uint64 { return slices.Sorted(maps.Keys(c)) }

// records is a record for each key, rising.
func (c contents) records() [][]byte {
	var all [][]byte
	for _, key := range c.keys() {
		all = append(all, encoded(put(key, c[key])))
	}
	return all
}

// put is a change that gives a key a value.
func put(key uint64, value string) api.Put { return api.Put{Key: key, Val: []byte(value)} }

// gone is a change that removes a key's value.
func gone(key uint64) api.Put { return api.Put{Key: key, Gone: true} }

// noise is so many bytes that a plain rule makes of a seed.
func noise(seed uint32, n int) string {
	b := make([]byte, n)
	for i := range b {
		seed = seed*1664525 + 1013904223
		b[i] = byte(seed >> 24)
	}
	return string(b)
}

// field is a length and the bytes behind it.
func field(b []byte) []byte {
	if len(b) < 255 {
		return append([]byte{byte(len(b))}, b...)
	}
	return append([]byte{255, byte(len(b) / 256), byte(len(b) % 256)}, b...)
}

// encoded is the record of some changes.
func encoded(l ...api.Put) []byte {
	var b []byte
	for _, p := range l {
		b = append(b, field(new(big.Int).SetUint64(p.Key).Bytes())...)
		if p.Gone {
			b = append(b, 0)
		} else {
			b = append(b, field(append([]byte{1}, p.Val...))...)
		}
	}
	return b
}

// stored is the bytes of records on a side of the journal.
func stored(records ...[]byte) []byte {
	var b []byte
	for _, record := range records {
		b = append(b, field(binary.BigEndian.AppendUint32(slices.Clone(record), adler32.Checksum(record)))...)
	}
	return b
}

// create is a device of so many sectors.
func create(t testing.TB, sectors int) *device.Device {
	t.Helper()
	d, e := device.New(sectors)
	if e != api.OK {
		t.Fatalf("New(%d) = %d", sectors, e)
	}
	return d
}

// set makes a sector's bytes durable, and zeros behind them.
func set(t testing.TB, d *device.Device, i int, b []byte) {
	t.Helper()
	is(t, "Write", d.Write(i, append(slices.Clone(b), make([]byte, api.Sector-len(b))...)), api.OK)
	is(t, "Barrier", d.Barrier(), api.OK)
}

// image is the bytes of all sectors.
func image(t testing.TB, d *device.Device) [][]byte {
	t.Helper()
	var all [][]byte
	for i := range d.Size() {
		b, e := d.Read(i)
		is(t, "Read", e, api.OK)
		all = append(all, b)
	}
	return all
}

// laid is a device with the bytes of all its sectors, durable.
func laid(t testing.TB, all [][]byte) *device.Device {
	t.Helper()
	d := create(t, len(all))
	for i, b := range all {
		is(t, "Write", d.Write(i, b), api.OK)
	}
	is(t, "Barrier", d.Barrier(), api.OK)
	return d
}

// sameRecords tells whether two lists have the same records.
func sameRecords(a, b [][]byte) bool { return slices.EqualFunc(a, b, bytes.Equal) }

// has checks the records of a device's journal.
func has(t testing.TB, d *device.Device, want ...[]byte) {
	t.Helper()
	if _, got, e := journal.Open(d); e != api.OK || !sameRecords(got, want) {
		t.Fatalf("the journal has %q, %d, want %q", brief(got), e, brief(want))
	}
}

// brief is records of which only the first bytes are told.
func brief(records [][]byte) [][]byte {
	var all [][]byte
	for _, record := range records {
		all = append(all, record[:min(len(record), 40)])
	}
	return all
}

// recorded is a device with a journal of such records, which no store has written.
func recorded(t testing.TB, sectors int, records ...[]byte) *device.Device {
	t.Helper()
	d := create(t, sectors)
	j, _, e := journal.Open(d)
	is(t, "the journal's Open", e, api.OK)
	for _, record := range records {
		is(t, "the journal's Add", j.Add(record), api.OK)
	}
	return d
}

// holds checks what a store has.
func holds(t testing.TB, k *keep.Keep, want contents) {
	t.Helper()
	keys := k.Keys()
	if !slices.Equal(keys, want.keys()) {
		t.Fatalf("Keys() = %d, want %d", keys, want.keys())
	}
	for _, key := range append(keys, 0, 1, 2, 7, 8, 9, 255, 256, math.MaxUint64-1, math.MaxUint64) {
		lookup(t, k, key, want)
		lookup(t, k, key+1, want)
	}
}

// lookup checks what a store has for a key.
func lookup(t testing.TB, k *keep.Keep, key uint64, want contents) {
	t.Helper()
	value, there := want[key]
	got, ok := k.Get(key)
	if ok != there || string(got) != value {
		t.Fatalf("Get(%d) = %.40q, %v, want %.40q, %v", key, got, ok, value, there)
	}
}

// open is the store on a device, which must have these contents.
func open(t testing.TB, d *device.Device, want contents) *keep.Keep {
	t.Helper()
	k, e := keep.Open(d)
	if k == nil || e != api.OK || k.Broken() {
		t.Fatalf("Open = %v, %d", k, e)
	}
	holds(t, k, want)
	return k
}

// openFails checks that a device can't be opened.
func openFails(t testing.TB, d *device.Device, want api.Errno) {
	t.Helper()
	if k, e := keep.Open(d); k != nil || e != want {
		t.Fatalf("Open = %v, %d, want nil, %d", k, e, want)
	}
}

// is checks an error's number.
func is(t testing.TB, what string, got, want api.Errno) {
	t.Helper()
	if got != want {
		t.Fatalf("%s = %d, want %d", what, got, want)
	}
}

// room checks how many bytes are free.
func room(t testing.TB, k *keep.Keep, want int) {
	t.Helper()
	if got := k.Room(); got != want {
		t.Fatalf("Room() = %d, want %d", got, want)
	}
}

// none is a choice that leaves nothing.
func none() api.Choice { return api.Choice{Torn: -1} }

// on turns the power on, which must have been off.
func on(t testing.TB, d *device.Device) {
	t.Helper()
	if !d.On() {
		t.Fatal("the power wasn't off")
	}
}

// The chapter's example.
func TestExample(t *testing.T) {
	d := create(t, 6)
	k := open(t, d, nil)
	is(t, "Commit", k.Commit([]api.Put{put(7, "x")}), api.OK)
	is(t, "Commit", k.Commit([]api.Put{gone(7), put(8, "")}), api.OK)
	if keys := k.Keys(); !slices.Equal(keys, []uint64{8}) {
		t.Errorf("Keys() = %d", keys)
	}
	if value, ok := k.Get(8); !ok || len(value) != 0 {
		t.Errorf("Get(8) = %q, %v", value, ok)
	}
	open(t, d, contents{8: ""})
}

// P5.1, P5.2: each Commit makes its changes, one after the other, and what was kept is found again.
func TestCommits(t *testing.T) {
	d := create(t, 40)
	k := open(t, d, nil)
	var want contents
	for n, l := range [][]api.Put{
		{put(1, "a")},
		{put(1, "b")},
		{put(2, "c"), put(3, "d")},
		{gone(2)},
		{gone(2)},
		{gone(9), put(2, "e"), gone(1)},
		{put(4, "f"), put(4, "g")},
		{put(4, "h"), gone(4)},
		{gone(3), put(3, "i")},
		{put(5, "j"), gone(5), put(5, "k"), put(5, "l")},
		{put(5, "m"), put(5, "n"), gone(5)},
		{put(6, ""), put(3, "")},
		{gone(6)},
		{{Key: 7, Val: []byte("ignored"), Gone: true}, {Key: 3, Val: []byte("ignored"), Gone: true}},
		{{Key: 8}, {Key: 9, Val: []byte{0}}, {Key: 10, Val: []byte{1, 1}}},
		{put(0, noise(1, 253)), put(1, noise(2, 254)), put(2, noise(3, 255))},
		{gone(0), gone(1), gone(2), gone(3), gone(8), gone(9), gone(10)},
		{put(0, "again")},
	} {
		is(t, "Commit", k.Commit(l), api.OK)
		want = want.after(l...)
		holds(t, k, want)
		again := open(t, d, want)
		room(t, again, k.Room())
		if n%3 == 2 { // one that was opened goes on as the other one would
			k = again
		}
	}
	holds(t, k, contents{0: "again"})
}

// P5.1: a key may be any number, and the keys are sorted as numbers.
func TestKeys(t *testing.T) {
	sorted := []uint64{0, 1, 2, 9, 10, 127, 128, 254, 255, 256, 257, 511, 512, 65535, 65536, 1<<31 - 1, 1 << 31, 1 << 32, 1<<56 - 1, 1 << 56, math.MaxInt64, 1 << 63, math.MaxUint64 - 1, math.MaxUint64}
	d := create(t, 40)
	k := open(t, d, nil)
	var want contents
	for n := range sorted {
		p := put(sorted[n*7%len(sorted)], noise(uint32(n), n))
		is(t, "Commit", k.Commit([]api.Put{p}), api.OK)
		want = want.after(p)
		holds(t, k, want)
	}
	if keys := open(t, d, want).Keys(); !slices.Equal(keys, sorted) {
		t.Errorf("Keys() = %d, want %d", keys, sorted)
	}
	for _, key := range sorted {
		is(t, "Commit", k.Commit([]api.Put{gone(key)}), api.OK)
		want = want.after(gone(key))
		holds(t, k, want)
	}
	open(t, d, nil)
}

// P5.1: a value without bytes is one, beside one that is removed, or that never was.
func TestEmptyValue(t *testing.T) {
	d := create(t, 6)
	k := open(t, d, nil)
	is(t, "Commit", k.Commit([]api.Put{{Key: 1}, {Key: 2, Val: []byte{}}, put(3, "a"), {Key: 3}, put(4, "b"), gone(4)}), api.OK)
	for _, k := range []*keep.Keep{k, open(t, d, contents{1: "", 2: "", 3: ""})} {
		for key := range uint64(6) {
			there := 1 <= key && key <= 3
			if value, ok := k.Get(key); ok != there || len(value) != 0 {
				t.Errorf("Get(%d) = %q, %v, want %v", key, value, ok, there)
			}
		}
	}
}

// P5.2: without changes a Commit is OK, and writes nothing.
func TestCommitOfNothing(t *testing.T) {
	d := create(t, 6)
	k := open(t, d, nil)
	is(t, "Commit", k.Commit([]api.Put{put(1, noise(1, 490))}), api.OK)
	changes, free := d.Changes(), k.Room()
	d.Plan(0, none())
	is(t, "Commit", k.Commit(nil), api.OK)
	is(t, "Commit", k.Commit([]api.Put{}), api.OK)
	is(t, "Commit", k.Commit(make([]api.Put, 0, 5)), api.OK)
	if d.Changes() != changes || d.Off() {
		t.Error("a Commit of nothing changed the device")
	}
	room(t, k, free)
	d.Cut(none())
	is(t, "Commit", k.Commit(nil), api.OK)
	if k.Broken() {
		t.Error("a Commit of nothing broke the store")
	}
	on(t, d)
	is(t, "Commit", k.Commit([]api.Put{gone(1)}), api.OK)
}

// P5.2: a nil store has nothing and is broken; so is one that nobody opened.
func TestNoStore(t *testing.T) {
	for _, k := range []*keep.Keep{nil, {}} {
		for _, key := range []uint64{0, 1, math.MaxUint64} {
			if value, ok := k.Get(key); ok || len(value) != 0 {
				t.Errorf("Get(%d) = %q, %v", key, value, ok)
			}
		}
		if keys := k.Keys(); len(keys) != 0 {
			t.Errorf("Keys() = %d", keys)
		}
		room(t, k, 0)
		if !k.Broken() {
			t.Error("Broken() = false")
		}
		for _, l := range [][]api.Put{nil, {}, {put(1, "a")}, {gone(1)}, {put(1, noise(1, 60001))}} {
			is(t, "Commit", k.Commit(l), api.ErrState)
		}
		holds(t, k, nil)
	}
}
