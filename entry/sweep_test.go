package entry_test

import (
	"math"
	"testing"

	"wardship/api"
	"wardship/entry"
)

// isGone checks what Gone says.
func isGone(t *testing.T, by, base api.Vec, want bool) {
	t.Helper()
	if got := entry.Gone(by, base); got != want {
		t.Errorf("Gone(%v, %v) = %v", by, base, got)
	}
}

// P10.3: of one replica, whichever it is, base below its number, at it and above it, and 0 on either side.
func TestGoneOfOneReplica(t *testing.T) {
	edges := []uint32{0, 1, 2, 255, 256, 1<<20 - 1, 1 << 20, 1<<31 - 1, 1 << 31, math.MaxUint32 - 1, math.MaxUint32}
	for i := range 8 {
		for _, n := range edges {
			for _, m := range edges {
				var by, base api.Vec
				by[i], base[i] = n, m
				isGone(t, by, base, n > 0 && m >= n)
				var other api.Vec
				other[(i+1)%8] = m
				isGone(t, by, other, false)
			}
		}
	}
}

// P10.3: of several replicas, one is enough.
func TestGoneOfSeveralReplicas(t *testing.T) {
	const most = math.MaxUint32
	all := api.Vec{most, most, most, most, most, most, most, most}
	isGone(t, api.Vec{}, api.Vec{}, false)
	isGone(t, api.Vec{}, all, false)
	isGone(t, all, all, true)
	isGone(t, all, api.Vec{}, false)
	isGone(t, all, api.Vec{most - 1, most - 1, most - 1, most - 1, most - 1, most - 1, most - 1, most - 1}, false)
	isGone(t, api.Vec{1, 1, 1, 1, 1, 1, 1, 1}, all, true)
	isGone(t, api.Vec{3, 3}, api.Vec{2, 3}, true)
	isGone(t, api.Vec{3, 3}, api.Vec{3, 2}, true)
	isGone(t, api.Vec{3, 3}, api.Vec{2, 2}, false)
	isGone(t, api.Vec{3, 3}, api.Vec{0, 3}, true)
	isGone(t, api.Vec{3, 3}, api.Vec{0, 0, 9}, false)
	isGone(t, api.Vec{0, 3}, api.Vec{9, 2, 9}, false)
	isGone(t, api.Vec{0, 3}, api.Vec{9, 3, 9}, true)
	isGone(t, api.Vec{0, 3, 0, 5}, api.Vec{9, 2, 9, 4}, false)
	isGone(t, api.Vec{0, 3, 0, 5}, api.Vec{9, 2, 9, 5}, true)
	isGone(t, api.Vec{8, 7, 6, 5, 4, 3, 2, 1}, api.Vec{7, 6, 5, 4, 3, 2, 1, 0}, false)
	isGone(t, api.Vec{8, 7, 6, 5, 4, 3, 2, 1}, api.Vec{7, 6, 5, 4, 3, 2, 1, 1}, true)
}

// P10.3: all vectors of a few numbers at three replicas, and known ones, held against the chapter's words told anew.
func TestGoneOfAllPairs(t *testing.T) {
	all := vectors()
	for a := range uint32(4) {
		for b := range uint32(4) {
			for c := range uint32(4) {
				all = append(all, api.Vec{0: a, 4: b, 7: c})
			}
		}
	}
	for _, by := range all {
		for _, base := range all {
			isGone(t, by, base, expectGone(by, base))
		}
	}
}

// P10.3: what went by base is swept, what is alive and what went later stays, in its order and as it was.
func TestKnownSweeps(t *testing.T) {
	l := []api.Entry{
		named(id(1, 1), "a"),
		gone(named(id(2, 1), "b"), api.Vec{0, 3}),
		gone(named(id(3, 1), "c"), api.Vec{0, 4}),
		gone(named(id(1, 2), "a"), api.Vec{5, 4}),
		named(id(2, 2), "d"),
		gone(named(id(1, 3), "e"), api.Vec{7: 1}),
	}
	for _, c := range []struct {
		base api.Vec
		want []api.Entry
	}{
		{api.Vec{}, l},
		{api.Vec{9}, []api.Entry{l[0], l[1], l[2], l[4], l[5]}},
		{api.Vec{4, 2, 9, 9, 9, 9, 9}, l},
		{api.Vec{0, 3}, []api.Entry{l[0], l[2], l[3], l[4], l[5]}},
		{api.Vec{0, 4}, []api.Entry{l[0], l[4], l[5]}},
		{api.Vec{5, 3}, []api.Entry{l[0], l[2], l[4], l[5]}},
		{api.Vec{7: 1}, l[:5]},
		{api.Vec{9, 9, 9, 9, 9, 9, 9, 9}, []api.Entry{l[0], l[4]}},
	} {
		got := entry.Sweep(l, c.base)
		same(t, "Sweep", got, c.want)
		same(t, "Sweep again", entry.Sweep(got, c.base), c.want)
		for _, none := range [][]api.Entry{nil, {}, l[1:2:2][:0]} {
			if got := entry.Sweep(none, c.base); len(got) != 0 {
				t.Errorf("Sweep of none: %v", got)
			}
		}
	}
	if got := entry.Sweep(l[1:4], api.Vec{5, 4}); len(got) != 0 {
		t.Errorf("Sweep of all leaves %v", got)
	}
}

// P10.3: the numbers of the entries, of their objects and directories are no matter.
func TestSweepByBysAlone(t *testing.T) {
	base := api.Vec{1 << 20, 1 << 20, 1 << 20, 1 << 20, 1 << 20, 1 << 20, 1 << 20, 1 << 20}
	for _, by := range vectors() {
		l := numbered(ids()...)
		for i := range l {
			l[i].By = by
		}
		same(t, "Sweep", entry.Sweep(l, base), expectSweep(l, base))
		same(t, "Sweep by nothing", entry.Sweep(l, api.Vec{}), l)
	}
}
