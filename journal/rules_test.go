package journal_test

import (
	"bytes"
	"slices"
	"testing"

	"wardship/api"
	"wardship/journal"
)

// Rule 4: the records of a call are neither changed nor kept, and nothing behind their ends is touched.
func TestArgumentsStay(t *testing.T) {
	for _, replace := range []bool{false, true} {
		d := create(t, 8)
		j := open(t, d)
		call := j.Add
		if replace {
			call = j.Replace
		}
		text := []byte("abcdefghij")
		records := [][]byte{text[:3], text[3:3], text[5:9], []byte("behind"), nil}
		want := list("abc", "", "fghi")
		is(t, "a call", call(records[:3]...), api.OK)
		if string(text) != "abcdefghij" || string(records[3]) != "behind" || records[4] != nil {
			t.Errorf("a call left %q, %q", text, records)
		}
		clear(text)
		clear(records)
		open(t, d, want...)
		is(t, "Add", j.Add([]byte("k")), api.OK)
		open(t, d, append(want, []byte("k"))...)
	}
}

// Rule 4: the same slice may be given several times.
func TestSameRecordTwice(t *testing.T) {
	d := create(t, 6)
	j := open(t, d)
	record := []byte("ab")
	is(t, "Add", j.Add(record, record, record[:1]), api.OK)
	open(t, d, list("ab", "ab", "a")...)
}

// Rule 4: the records that Open answers share no memory with each other, with the device, with the journal, or with those of another Open.
func TestResultsShareNothing(t *testing.T) {
	d := create(t, 6)
	want := list("abc", "", "def", "ghi")
	is(t, "Add", open(t, d).Add(want...), api.OK)
	j, first, _ := journal.Open(d)
	_, second, _ := journal.Open(d)
	for i := range first {
		_ = append(first[i], "0123456789012345678901234567890123456789"...)
		for k := range first[i] {
			first[i][k] = 'x'
		}
		for k, other := range first[i+1:] {
			if !bytes.Equal(other, want[i+1+k]) {
				t.Errorf("a change of record %d shows in %q", i, other)
			}
		}
	}
	_ = append(first, []byte("y"))
	clear(first)
	if !sameRecords(second, want) {
		t.Errorf("a change shows in another result: %q", second)
	}
	open(t, d, want...)
	is(t, "Add", j.Add([]byte("j")), api.OK)
	open(t, d, append(slices.Clone(want), []byte("j"))...)
}

// P2: what two journals on two devices answer doesn't hang on each other.
func TestTwoJournals(t *testing.T) {
	a, b := create(t, 6), create(t, 8)
	j, k := open(t, a), open(t, b)
	var first, second [][]byte
	for n := range 20 {
		x, y := noise(uint32(n), n), noise(uint32(100+n), 20-n)
		is(t, "Add", j.Add(x), api.OK)
		is(t, "Add", k.Add(y, x), api.OK)
		first, second = append(first, x), append(second, y, x)
		open(t, a, first...)
		open(t, b, second...)
	}
	a.Cut(none())
	is(t, "Add", j.Add([]byte("z")), api.ErrDown)
	is(t, "Add", k.Add([]byte("z")), api.OK)
	tells(t, j, true, 20)
	tells(t, k, false, 41)
}

// Rule 3: a call that is refused leaves nothing behind for a later one.
func TestRefusedCallLeavesNothing(t *testing.T) {
	a, b := create(t, 6), create(t, 6)
	j, k := open(t, a), open(t, b)
	for n := range 12 {
		is(t, "Add", j.Add([]byte("x"), noise(1, 600)), api.ErrFull)
		is(t, "Replace", j.Replace([]byte("x"), noise(1, 65532)), api.ErrLong)
		is(t, "Add()", j.Add(), api.OK)
		record := noise(uint32(n), 35)
		is(t, "Add", j.Add(record), api.OK)
		is(t, "Add", k.Add(record), api.OK)
		room(t, j, k.Room())
		tells(t, j, false, k.Len())
		sameDevices(t, a, b)
	}
}
