package version_test

import (
	"math"
	"slices"
	"testing"

	"wardship/api"
	"wardship/version"
)

// P11.2: of one replica, whichever it is, base below the number in By, at it and above it, and 0 on either side.
func TestSweepOfOneReplica(t *testing.T) {
	edges := []uint32{0, 1, 2, 255, 256, 1<<20 - 1, 1 << 20, 1<<31 - 1, 1 << 31, math.MaxUint32 - 1, math.MaxUint32}
	for i := range 8 {
		for _, n := range edges {
			for _, m := range edges {
				var by, base, other api.Vec
				by[i], base[i], other[(i+1)%8] = n, m, m
				l := []api.Version{latest(id(1, 1), "a"), replaced(latest(id(2, 1), "b"), by), latest(id(1, 2), "c")}
				want := l
				if n > 0 && m >= n {
					want = []api.Version{l[0], l[2]}
				}
				same(t, "Sweep", version.Sweep(l, base), want)
				same(t, "Sweep by another replica", version.Sweep(l, other), l)
			}
		}
	}
}

// P11.2: what was replaced by base is swept, one replica is enough for it; the latest and what was replaced later stay, in their order and as they were.
func TestKnownSweeps(t *testing.T) {
	l := []api.Version{
		latest(id(1, 1), "a"),
		replaced(latest(id(2, 1), "b"), api.Vec{0, 3}),
		replaced(latest(id(3, 1), "c"), api.Vec{0, 4}),
		replaced(latest(id(1, 2), "a"), api.Vec{5, 4}),
		latest(id(2, 2), "\x00"),
		replaced(latest(id(1, 3), ""), api.Vec{7: 1}),
	}
	for _, c := range []struct {
		base api.Vec
		want []api.Version
	}{
		{api.Vec{}, l},
		{api.Vec{9}, []api.Version{l[0], l[1], l[2], l[4], l[5]}},
		{api.Vec{4, 2, 9, 9, 9, 9, 9}, l},
		{api.Vec{0, 3}, []api.Version{l[0], l[2], l[3], l[4], l[5]}},
		{api.Vec{0, 4}, []api.Version{l[0], l[4], l[5]}},
		{api.Vec{5, 3}, []api.Version{l[0], l[2], l[4], l[5]}},
		{api.Vec{7: 1}, l[:5]},
		{api.Vec{9, 9, 9, 9, 9, 9, 9, 9}, []api.Version{l[0], l[4]}},
	} {
		got := version.Sweep(l, c.base)
		same(t, "Sweep", got, c.want)
		same(t, "Sweep again", version.Sweep(got, c.base), c.want)
		for _, none := range [][]api.Version{nil, {}, l[1:2:2][:0]} {
			if got := version.Sweep(none, c.base); len(got) != 0 {
				t.Errorf("Sweep of none: %v", got)
			}
		}
	}
	if got := version.Sweep(l[1:4], api.Vec{5, 4}); len(got) != 0 {
		t.Errorf("Sweep of all leaves %v", got)
	}
}

// P11.2: the numbers and the bytes of the versions are no matter.
func TestSweepByBysAlone(t *testing.T) {
	for _, by := range vectors() {
		l := numbered(ids()...)
		for i := range l {
			l[i].By = by
		}
		for _, base := range vectors() {
			same(t, "Sweep", version.Sweep(l, base), expectSweep(l, base))
		}
	}
}

// P11.2: of one of the latest, whichever replica it is of, seen below its number, at it and above it, and 0 on either side.
func TestUnseenOfOneReplica(t *testing.T) {
	edges := []uint32{0, 1, 2, 255, 256, 1<<20 - 1, 1 << 20, 1<<31 - 1, 1 << 31, math.MaxUint32 - 1, math.MaxUint32}
	for i := range 8 {
		for _, n := range edges {
			for _, m := range edges {
				var seen, other api.Vec
				seen[i], other[(i+1)%8] = m, m
				l := []api.Version{latest(id(i+1, n), "a")}
				isUnseen(t, l, seen, n == 0 || m < n)
				isUnseen(t, l, other, true)
				for _, by := range vectors()[1:] {
					isUnseen(t, []api.Version{replaced(l[0], by)}, seen, false)
				}
			}
		}
	}
}

// P11.2: of several versions, one of the latest that isn't seen is enough, wherever it stands; the others are no matter.
func TestKnownUnseen(t *testing.T) {
	l := []api.Version{
		replaced(latest(id(1, 1), "old"), api.Vec{0, 5, 2}),
		latest(id(3, 2), "c"),
		latest(id(2, 5), "b"),
		replaced(latest(id(4, 6), "older"), api.Vec{1}),
		latest(id(3, 6), "d"),
	}
	isUnseen(t, l, api.Vec{0, 5, 6}, false)
	isUnseen(t, l, api.Vec{9, 9, 9, 9, 9, 9, 9, 9}, false)
	isUnseen(t, l, api.Vec{}, true)
	isUnseen(t, l, api.Vec{9, 9, 5, 9, 9, 9, 9, 9}, true)
	isUnseen(t, l, api.Vec{9, 4, 9, 9, 9, 9, 9, 9}, true)
	isUnseen(t, l, api.Vec{9, 9, 0, 9, 9, 9, 9, 9}, true)
	isUnseen(t, l[:2], api.Vec{0, 0, 2}, false)
	isUnseen(t, l[:2], api.Vec{2, 2, 1, 2, 2, 2, 2, 2}, true)
	isUnseen(t, l[:1], api.Vec{}, false)
	isUnseen(t, l[3:4], api.Vec{}, false)
	isUnseen(t, append(slices.Clone(l[:1]), l[3]), api.Vec{}, false)
	for _, seen := range vectors() {
		isUnseen(t, nil, seen, false)
		isUnseen(t, []api.Version{}, seen, false)
		isUnseen(t, l[:0], seen, false)
	}
}

// P11.2: one of the latest with a number that no event has is contained in no vector.
func TestUnseenOfNoEvent(t *testing.T) {
	for _, number := range []api.ID{{}, id(0, 1), id(-1, 1), id(9, 1), id(1, 0), id(8, 0), id(math.MaxInt, 1), id(math.MinInt, 1)} {
		for _, seen := range vectors() {
			isUnseen(t, []api.Version{latest(number, "a")}, seen, true)
			isUnseen(t, []api.Version{replaced(latest(number, "a"), api.Vec{1})}, seen, false)
		}
	}
}

// P11.2: each pair of numbers, both of the latest or one of them, with each vector, held against the chapter's words told anew.
func TestUnseenOfAllPairs(t *testing.T) {
	all := numbered(ids()...)
	for i := range all {
		for j := i + 1; j < len(all); j++ {
			for _, seen := range vectors() {
				for _, l := range [][]api.Version{
					{all[i], all[j]},
					{replaced(all[i], api.Vec{7: 1}), all[j]},
					{all[i], replaced(all[j], api.Vec{1})},
				} {
					isUnseen(t, l, seen, expectUnseen(l, seen))
				}
			}
		}
	}
}
