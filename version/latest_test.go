package version_test

import (
	"slices"
	"testing"

	"wardship/api"
	"wardship/version"
)

// P11.3: two versions that replace the same one without knowing each other are both among the latest, whichever comes first; one that replaces both is the only latest one.
func TestConcurrentVersions(t *testing.T) {
	first := latest(id(1, 1), "first")
	for _, numbers := range [][2]api.ID{{id(1, 2), id(2, 1)}, {id(2, 5), id(3, 2)}, {id(2, 2), id(3, 2)}, {id(7, 9), id(8, 9)}, {id(1, 1<<20), id(2, 1<<20)}, {id(3, 2), id(3, 3)}} {
		one, two := latest(numbers[0], "one"), latest(numbers[1], "two")
		l := added(t, nil, first)
		onward := added(t, added(t, l, one, first.ID), two, first.ID)
		backward := added(t, added(t, l, two, first.ID), one, first.ID)
		same(t, "Add the other way round", backward, onward)
		heads := listed(asSet([]api.Version{one, two}))
		same(t, "Heads of both", version.Heads(onward), heads)
		both := latest(id(4, 1<<20), "both")
		for _, base := range [][]api.ID{{one.ID, two.ID}, {two.ID, one.ID}, {two.ID, one.ID, first.ID}} {
			same(t, "Heads of one for both", version.Heads(added(t, onward, both, base...)), []api.Version{both})
		}
		same(t, "Heads of one for one", version.Heads(added(t, onward, both, one.ID)), listed(asSet([]api.Version{two, both})))
		same(t, "Heads of one for the first again", version.Heads(added(t, onward, both, first.ID)), listed(asSet([]api.Version{one, two, both})))
		same(t, "Heads of one for none", version.Heads(added(t, onward, both)), listed(asSet([]api.Version{one, two, both})))
	}
}

// P11.3: as many concurrent versions as there are replicas, in some orders, are all among the latest, until one replaces them.
func TestManyConcurrentVersions(t *testing.T) {
	first := latest(id(1, 1), "first")
	for order := range orders(6) {
		l := added(t, nil, first)
		var want []api.Version
		for rep := range 6 {
			want = append(want, latest(id(rep+1, 7), "a"))
		}
		for _, at := range order {
			l = added(t, l, want[at], first.ID)
		}
		same(t, "Heads", version.Heads(l), want)
		for _, last := range []api.ID{id(8, 1), id(7, 7), id(8, 8), id(1, 8)} {
			l := added(t, l, latest(last, "last"), numbers(version.Heads(l))...)
			same(t, "Heads of the last", version.Heads(l), []api.Version{latest(last, "last")})
			isUnseen(t, l, api.Vec{7, 7, 7, 7, 7, 7, 6, 0}, true)
			isUnseen(t, l, api.Vec{8, 0, 0, 0, 0, 0, 7, 8}, false)
		}
	}
}

// P11.3: rows of versions by chance: the latest are those that none has had as its base, and what replaces them all is alone.
func TestRowsOfVersions(t *testing.T) {
	for seed := range dice(3000) {
		d := seed
		var l []api.Version
		replaced := map[api.ID]bool{}
		for step := range 20 {
			v := latest(id(1+d.roll(8), uint32(1+d.roll(9))), string(rune('a'+step)))
			var base []api.ID
			for range min(len(l), d.roll(4)) {
				base = append(base, l[d.roll(len(l))].ID)
			}
			if step%5 == 4 {
				base = numbers(version.Heads(l))
			}
			there := slices.Contains(numbers(l), v.ID)
			more, e := version.Add(l, base, v)
			if (e == api.ErrOld) != there || (e == api.OK) == there {
				t.Fatalf("Add of %v: %d", v, e)
			}
			if there {
				continue
			}
			l = more
			for _, number := range base {
				replaced[number] = true
			}
			want := slices.DeleteFunc(numbers(l), func(number api.ID) bool { return replaced[number] })
			if got := numbers(version.Heads(l)); !slices.Equal(got, want) || step%5 == 4 && len(got) != 1 {
				t.Fatalf("Heads of %v: %v, not %v", l, got, want)
			}
			isData(t, l, v.ID, v.Data, api.OK)
		}
	}
}

// P11.3: a sweep by what is known leaves the latest ones.
func TestSweepLeavesTheLatest(t *testing.T) {
	l := added(t, nil, latest(id(1, 1), "a"))
	l = added(t, l, latest(id(1, 2), "b"), id(1, 1))
	l = added(t, l, latest(id(2, 1), "c"), id(1, 1))
	l = added(t, l, latest(id(1, 3), "d"), id(1, 2))
	want := []api.Version{latest(id(2, 1), "c"), latest(id(1, 3), "d")}
	same(t, "Heads", version.Heads(l), want)
	same(t, "Sweep of 1.1", version.Sweep(l, api.Vec{0, 1}), []api.Version{l[1], l[2], l[3]})
	same(t, "Sweep of 1.1", version.Sweep(l, api.Vec{2}), []api.Version{l[1], l[2], l[3]})
	same(t, "Sweep of 1.1 and 1.2", version.Sweep(l, api.Vec{3, 1}), want)
	same(t, "Heads of what is left", version.Heads(version.Sweep(l, api.Vec{3, 1})), want)
}
