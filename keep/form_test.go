package keep_test

import (
	"bytes"
	"math"
	"slices"
	"testing"

	"wardship/api"
	"wardship/keep"
)

// Form: the record of some changes, byte by byte.
func TestRecord(t *testing.T) {
	long := noise(1, 254)
	for _, c := range []struct {
		l    []api.Put
		want string
	}{
		{[]api.Put{put(7, "x")}, "\x01\x07\x02\x01x"},
		{[]api.Put{gone(7), put(8, "")}, "\x01\x07\x00\x01\x08\x01\x01"},
		{[]api.Put{put(0, "abc")}, "\x00\x04\x01abc"},
		{[]api.Put{gone(0)}, "\x00\x00"},
		{[]api.Put{{}}, "\x00\x01\x01"},
		{[]api.Put{put(300, "\x00")}, "\x02\x01\x2c\x02\x01\x00"},
		{[]api.Put{put(255, "\x01"), gone(256)}, "\x01\xff\x02\x01\x01\x02\x01\x00\x00"},
		{[]api.Put{put(math.MaxUint64, "z")}, "\x08\xff\xff\xff\xff\xff\xff\xff\xff\x02\x01z"},
		{[]api.Put{gone(1 << 56)}, "\x08\x01\x00\x00\x00\x00\x00\x00\x00\x00"},
		{[]api.Put{{Key: 5, Val: []byte("ignored"), Gone: true}}, "\x01\x05\x00"},
		{[]api.Put{put(2, "a"), put(1, "b"), put(2, "c")}, "\x01\x02\x02\x01a\x01\x01\x02\x01b\x01\x02\x02\x01c"},
		{[]api.Put{put(2, "a"), gone(2), gone(2)}, "\x01\x02\x02\x01a\x01\x02\x00\x01\x02\x00"},
		{[]api.Put{put(3, long[1:])}, "\x01\x03\xfe\x01" + long[1:]},
		{[]api.Put{put(3, long)}, "\x01\x03\xff\x00\xff\x01" + long},
		{[]api.Put{put(3, long+"ab")}, "\x01\x03\xff\x01\x01\x01" + long + "ab"},
	} {
		d := create(t, 8)
		k := open(t, d, nil)
		is(t, "Commit", k.Commit(c.l), api.OK)
		has(t, d, []byte(c.want))
		room(t, k, 768-len(stored([]byte(c.want))))
		open(t, d, contents{}.after(c.l...))
	}
}

// Form, P5.2: each Commit adds one record of its own, and the others stay.
func TestRecordsOfCommits(t *testing.T) {
	d := create(t, 20)
	k := open(t, d, nil)
	var records [][]byte
	for n, l := range [][]api.Put{
		{put(1, "a")}, {put(1, "a")}, {gone(2)}, {put(3, ""), gone(3)}, {gone(1), put(1, noise(1, 300))}, {put(1, "b"), put(2, "b"), put(3, "b")},
	} {
		changes, used := d.Changes(), len(stored(records...))
		is(t, "Commit", k.Commit(l), api.OK)
		records = append(records, encoded(l...))
		end := len(stored(records...))
		has(t, d, records...)
		room(t, k, 9*256-end)
		if got, want := d.Changes()-changes, (end-1)/256-used/256+4; got != want || d.Loose() != 0 {
			t.Errorf("commit %d: %d changes, %d loose writes, want %d, 0", n, got, d.Loose(), want)
		}
	}
}

// Form, P5.1: the contents are what all records result in, change by change, whoever wrote them.
func TestContents(t *testing.T) {
	long := noise(5, 60000)
	for _, c := range []struct {
		records [][]byte
		want    contents
	}{
		{nil, nil},
		{[][]byte{nil}, nil},
		{[][]byte{{}, nil, {}}, nil},
		{[][]byte{encoded(put(1, "a"))}, contents{1: "a"}},
		{[][]byte{encoded(put(1, "a"), put(2, "b")), nil, encoded(put(2, "c"), put(0, ""))}, contents{0: "", 1: "a", 2: "c"}},
		{[][]byte{encoded(put(1, "a")), encoded(gone(1))}, nil},
		{[][]byte{encoded(gone(1)), encoded(put(1, "a"))}, contents{1: "a"}},
		{[][]byte{encoded(put(1, "a"), gone(1), put(1, "b"), put(1, "")), encoded(gone(2), put(2, "c"), gone(2))}, contents{1: ""}},
		{[][]byte{encoded(put(math.MaxUint64, "m")), encoded(put(0, "z")), encoded(gone(math.MaxUint64))}, contents{0: "z"}},
		{[][]byte{encoded(put(1, long)), encoded(put(2, "a"))}, contents{1: long, 2: "a"}},
		{[][]byte{encoded(put(1, "\x00"), put(2, "\x01"), put(3, "\xff"))}, contents{1: "\x00", 2: "\x01", 3: "\xff"}},
		{[][]byte{slices.Concat([]byte{0, 255, 0, 255, 1}, bytes.Repeat([]byte("x"), 254))}, contents{0: noiseless(254)}},
	} {
		d := recorded(t, 600, c.records...)
		changes := d.Changes()
		k := open(t, d, c.want)
		if room(t, k, 299*256-len(stored(c.records...))); d.Changes() != changes {
			t.Error("Open changed the device")
		}
	}
}

// noiseless is so many x.
func noiseless(n int) string { return string(bytes.Repeat([]byte("x"), n)) }

// Form, P5.2: a full journal gets one record for each key that has a value, rising, each with that one change.
func TestRecordsOfReplace(t *testing.T) {
	for _, c := range []struct {
		before, l []api.Put
		want      []api.Put
	}{
		{[]api.Put{put(1, "old")}, []api.Put{put(2, "new")}, []api.Put{put(1, "old"), put(2, "new")}},
		{[]api.Put{put(2, "old")}, []api.Put{put(1, "new")}, []api.Put{put(1, "new"), put(2, "old")}},
		{[]api.Put{put(1, "old")}, []api.Put{put(1, "new")}, []api.Put{put(1, "new")}},
		{[]api.Put{put(1, "old"), put(2, "")}, []api.Put{gone(1), put(3, "new")}, []api.Put{put(2, ""), put(3, "new")}},
		{[]api.Put{put(256, "a"), put(255, "b"), put(math.MaxUint64, "c"), put(1<<63, "d")}, []api.Put{put(0, "e"), put(65536, "f"), put(0, "g")},
			[]api.Put{put(0, "g"), put(255, "b"), put(256, "a"), put(65536, "f"), put(1<<63, "d"), put(math.MaxUint64, "c")}},
		{[]api.Put{put(5, "x"), put(6, "y")}, []api.Put{gone(6), put(4, "u"), gone(4), gone(7)}, []api.Put{put(5, "x")}},
		{[]api.Put{put(5, "x")}, []api.Put{gone(5)}, nil},
		{[]api.Put{put(5, "x")}, []api.Put{gone(5), gone(5), put(9, "y"), gone(9)}, nil},
		{nil, []api.Put{put(5, "x")}, []api.Put{put(5, "x")}},
		{nil, []api.Put{gone(5)}, nil},
	} {
		d := create(t, 8)
		k := open(t, d, nil)
		fillUp(t, k, c.before)
		is(t, "Commit", k.Commit(c.l), api.OK)
		var records [][]byte
		for _, p := range c.want {
			records = append(records, encoded(p))
		}
		has(t, d, records...)
		room(t, k, 768-len(stored(records...)))
		holds(t, k, contents{}.after(c.want...))
		open(t, d, contents{}.after(c.want...))
	}
}

// fillUp makes some changes, and changes that come to nothing, until the journal has no room for another record.
func fillUp(t testing.TB, k *keep.Keep, l []api.Put) {
	t.Helper()
	is(t, "Commit", k.Commit(l), api.OK)
	for k.Room() > 250 {
		is(t, "Commit", k.Commit([]api.Put{put(77, noise(1, 80)), gone(77)}), api.OK)
	}
	// What is left, but for the checksum and the lengths.
	is(t, "Commit", k.Commit([]api.Put{{Key: 77, Val: make([]byte, k.Room()-12)}, gone(77)}), api.OK)
	room(t, k, 0)
}
