package journal_test

import (
	"testing"

	"wardship/api"
	"wardship/device"
	"wardship/journal"
)

// call is an Add or a Replace.
type call struct {
	replace bool
	records [][]byte
}

// make makes the call.
func (c call) make(j *journal.Journal) api.Errno {
	if c.replace {
		return j.Replace(c.records...)
	}
	return j.Add(c.records...)
}

// result is the records after the call, if those were there before it.
func (c call) result(before [][]byte) [][]byte {
	if c.replace {
		return c.records
	}
	return append(append([][]byte(nil), before...), c.records...)
}

// changes is how many changes the call makes, if those records were there before it.
func (c call) changes(before [][]byte) int {
	used := 0
	if !c.replace {
		used = len(stored(before...))
	}
	first, end := used/api.Sector, used+len(stored(c.records...))
	if len(c.records) == 0 {
		return 3
	}
	return (end-1)/api.Sector - first + 4
}

// choices is what may stay of so many loose writes: any of them, and a part of any one, of each of these sizes.
func choices(loose int, halves []int) []api.Choice {
	var all []api.Choice
	for set := range 1 << loose {
		var kept []int
		for n := range loose {
			if set>>n&1 == 1 {
				kept = append(kept, n)
			}
		}
		all = append(all, api.Choice{Kept: kept, Torn: -1})
		for torn := range loose {
			for _, half := range halves {
				all = append(all, api.Choice{Kept: kept, Torn: torn, Half: half})
			}
		}
	}
	return all
}

// upTo is 0, 1, .., n.
func upTo(n int) []int {
	var all []int
	for i := range n + 1 {
		all = append(all, i)
	}
	return all
}

// withJournal is the sectors of a device with a journal, whose current tally has such a number; the one before it is there too.
func withJournal(t testing.TB, sectors int, number uint64, side int, records [][]byte) [][]byte {
	t.Helper()
	d := noisy(t, sectors)
	used := len(stored(records...))
	fill(t, d, side, stored(records...))
	set(t, d, int(number%2), tally(number, uint64(side), uint64(used)))
	if number > 1 {
		set(t, d, int(1-number%2), tally(number-1, uint64(side), uint64(used)))
	}
	return image(t, d)
}

// found is the records of a device, which must be sound.
func found(t testing.TB, d *device.Device) (*journal.Journal, [][]byte) {
	t.Helper()
	j, records, e := journal.Open(d)
	if e != api.OK || j.Len() != len(records) || j.Broken() {
		t.Fatalf("Open = %v, %q, %d", j, records, e)
	}
	return j, records
}

// P4.3: the power is cut at each change of a call, with each choice of what stays: what is found is what was there before, or what the call produces.
func TestCutAtEachChange(t *testing.T) {
	old := [][]byte{noise(1, 90), nil, noise(2, 100)}
	calls := []call{
		{false, list("a")}, {false, [][]byte{noise(3, 200)}}, {false, [][]byte{noise(4, 300), noise(5, 10)}},
		{true, nil}, {true, list("a")}, {true, [][]byte{noise(6, 245), nil}}, {true, [][]byte{noise(7, 300), nil, noise(8, 230)}},
	}
	some := []int{1, 6, 8, 100, 199, 207, 208, 250, 255}
	for n, c := range calls {
		before := withJournal(t, 9, uint64(254+n), n%2, old)
		changes := c.changes(old)
		for cut := range changes {
			loose, halves := min(cut+1, changes-3), some
			if cut >= changes-2 {
				loose, halves = 1, upTo(256)
			}
			for _, choice := range choices(loose, halves) {
				d := laid(t, before)
				j := open(t, d, old...)
				d.Plan(cut, choice)
				is(t, "a call that is cut", c.make(j), api.ErrDown)
				on(t, d)
				whole := cut >= changes-2 && (len(choice.Kept) == 1 || choice.Torn == 0 && choice.Half >= 64)
				if _, records := found(t, d); whole && !sameRecords(records, c.result(old)) || !whole && !sameRecords(records, old) {
					t.Fatalf("call %d, cut %d, %v: found %q", n, cut, choice, records)
				}
			}
		}
		d := laid(t, before)
		d.Plan(changes, none())
		is(t, "a call that isn't cut", c.make(open(t, d, old...)), api.OK)
		d.Cut(none())
		on(t, d)
		open(t, d, c.result(old)...)
	}
}

// P4.3: a second call is cut while it writes its tally over what the first one, which was cut too, left of its own.
func TestCutTwice(t *testing.T) {
	old := list("old")
	calls := []call{{false, list("one", "more")}, {true, [][]byte{noise(1, 270)}}}
	for _, number := range []uint64{1, 2, 254, 255, 65535} {
		before := withJournal(t, 8, number, 0, old)
		for n, first := range calls {
			second := calls[1-n]
			for h := range 66 {
				one := laid(t, before)
				j := open(t, one, old...)
				one.Plan(first.changes(old)-2, api.Choice{Torn: 0, Half: h})
				is(t, "the first call", first.make(j), api.ErrDown)
				on(t, one)
				_, was := found(t, one)
				middle := image(t, one)
				for half := range 66 {
					d := laid(t, middle)
					j := open(t, d, was...)
					d.Plan(second.changes(was)-1, api.Choice{Torn: 0, Half: half})
					is(t, "the second call", second.make(j), api.ErrDown)
					on(t, d)
					want := was
					if half >= 64 {
						want = second.result(was)
					}
					open(t, d, want...)
				}
			}
		}
	}
}

// P4.3: the power is cut while a device without a journal is opened, and again when it is opened the next time.
func TestCutWhenOpened(t *testing.T) {
	for _, first := range [][]byte{make([]byte, api.Sector), noise(1, api.Sector)} {
		for cut := range 4 {
			for _, c := range choices(1, upTo(66)) {
				for half := range 66 {
					d := create(t, 6)
					set(t, d, 1, first)
					d.Plan(cut%2, c)
					openFails(t, d, api.ErrDown)
					on(t, d)
					valid := len(c.Kept) == 1 || c.Torn == 0 && c.Half >= 64
					if d.Plan(cut/2, api.Choice{Torn: 0, Half: half}); !valid {
						openFails(t, d, api.ErrDown)
						on(t, d)
					}
					d.Plan(-1, none())
					j := open(t, d)
					is(t, "Add", j.Add([]byte("ab")), api.OK)
					open(t, d, []byte("ab"))
				}
			}
		}
	}
}

// P4.3: after a cut at any change, other calls make of what is found what they would have made of it anyway.
func TestGoOnAfterCut(t *testing.T) {
	old := [][]byte{noise(1, 90), noise(2, 150)}
	calls := []call{{false, list("a", "b")}, {false, [][]byte{noise(3, 300)}}, {true, list("c")}, {true, [][]byte{noise(4, 400)}}}
	for n, first := range calls {
		before := withJournal(t, 9, uint64(7+n), n/2, old)
		for cut := range first.changes(old) {
			for _, choice := range choices(min(cut+1, 2), []int{7, 60, 63, 64, 200}) {
				for _, second := range calls {
					d := laid(t, before)
					j := open(t, d, old...)
					d.Plan(cut, choice)
					is(t, "the first call", first.make(j), api.ErrDown)
					on(t, d)
					j, was := found(t, d)
					if size := len(stored(second.result(was)...)); size > 768 {
						is(t, "the second call", second.make(j), api.ErrFull)
						continue
					}
					is(t, "the second call", second.make(j), api.OK)
					d.Cut(none())
					on(t, d)
					open(t, d, second.result(was)...)
				}
			}
		}
	}
}
