package entry_test

import (
	"slices"
	"testing"

	"wardship/api"
	"wardship/entry"
	"wardship/path"
)

// act is an entry that comes, or, if by isn't zero, goes.
type act struct {
	x  api.Entry
	by api.ID
}

// done is a list in which an act was done. Who lets an entry go has it, so it comes first, if it isn't there.
func (a act) done(l []api.Entry) []api.Entry {
	l = entry.Add(l, a.x)
	if a.by == (api.ID{}) {
		return l
	}
	return entry.Kill(l, a.x.ID, a.by)
}

// acts are some of them, and what they come to.
func acts() ([]act, []api.Entry) {
	x, y, z := named(id(8, 1), "a"), named(id(1, 2), "a"), named(id(2, 2), "b")
	want := []api.Entry{gone(x, api.Vec{0, 2, 5}), gone(y, api.Vec{0, 3}), z}
	return []act{{x: x}, {x: y}, {x: z}, {x, id(2, 2)}, {x, id(3, 5)}, {y, id(2, 3)}}, want
}

// P10.4: the same acts in each order, in one list.
func TestActsInEachOrder(t *testing.T) {
	all, want := acts()
	for order := range orders(len(all)) {
		var l []api.Entry
		for _, i := range order {
			l = all[i].done(l)
		}
		same(t, "in one list", l, want)
		for _, i := range order {
			l = all[i].done(l)
		}
		same(t, "all of it again", l, want)
	}
}

// inOrder tells whether each entry comes before it goes.
func inOrder(all []act, order []int) bool {
	come := map[api.ID]bool{}
	for _, i := range order {
		if all[i].by == (api.ID{}) {
			come[all[i].x.ID] = true
		} else if !come[all[i].x.ID] {
			return false
		}
	}
	return true
}

// P10.4: the same acts in each order in which entries come before they go, each in one list or in the other or in both; joined, and joined again.
func TestActsInTwoLists(t *testing.T) {
	all, want := acts()
	tried := 0
	for order := range orders(len(all)) {
		if !inOrder(all, order) {
			continue
		}
		for split := range 729 {
			var lists [2][]api.Entry
			rest := split
			for _, i := range order {
				for which := range lists {
					if rest%3 != which {
						lists[which] = all[i].done(lists[which])
					}
				}
				rest /= 3
			}
			joined := entry.Join(lists[0], lists[1])
			if !slices.Equal(joined, want) || !slices.Equal(entry.Join(lists[1], lists[0]), want) {
				t.Fatalf("%v and %v come to %v", lists[0], lists[1], joined)
			}
			if !slices.Equal(entry.Join(joined, lists[0]), want) || !slices.Equal(entry.Join(lists[1], joined), want) {
				t.Fatalf("%v changes by a list that it has", joined)
			}
			tried++
		}
	}
	if tried != 120*729 {
		t.Errorf("%d cases", tried)
	}
}

// P10.4: acts by chance, of many entries and of all replicas, in some lists, which are joined in between and at the end in some order, come to what they come to in one list.
func TestActsByChance(t *testing.T) {
	for seed := range dice(2000) {
		d := seed
		var one []api.Entry
		lists := make([][]api.Entry, 1+d.roll(4))
		for range 5 + d.roll(60) {
			x := named(id(1+d.roll(8), uint32(1+d.roll(5))), "a")
			x.Dir, x.Obj = id(1, x.ID.Seq), id(x.ID.Rep, 1)
			a := act{x: x}
			if d.roll(2) == 0 {
				a.by = id(1+d.roll(8), uint32(1+d.roll(9)))
			}
			at, other := d.roll(len(lists)), d.roll(len(lists))
			one = a.done(one)
			lists[at] = a.done(lists[at])
			if d.roll(5) == 0 {
				lists[other] = entry.Join(lists[other], lists[at])
			}
		}
		for len(lists) > 1 {
			at := d.roll(len(lists) - 1)
			lists[at] = entry.Join(lists[at], lists[len(lists)-1])
			lists = lists[:len(lists)-1]
		}
		same(t, "joined", lists[0], one)
	}
}

// P10.4: of three lists, whichever are joined first.
func TestJoinInEachOrder(t *testing.T) {
	for seed := range dice(20000) {
		d := seed
		whole := d.list(8)
		some := func() []api.Entry {
			var l []api.Entry
			for _, x := range whole {
				if d.roll(2) == 0 {
					l = append(l, gone(x, d.vector()))
				}
			}
			return l
		}
		lists := [][]api.Entry{some(), some(), some()}
		want := entry.Join(entry.Join(lists[0], lists[1]), lists[2])
		for order := range orders(3) {
			a, b, c := lists[order[0]], lists[order[1]], lists[order[2]]
			same(t, "two joined, and the third", entry.Join(entry.Join(a, b), c), want)
			same(t, "one, and two joined", entry.Join(a, entry.Join(b, c)), want)
			same(t, "joined again", entry.Join(want, a), want)
		}
	}
}

// P10.4: no two names that are shown of a directory are equal, and each may stand in a path.
func TestShownNamesAreUnlike(t *testing.T) {
	names := []string{"a", "b", "ab", "a.1", "1.1", "a-2.1", "...", "abcdefghijkl"}
	for seed := range dice(5000) {
		d := seed
		set := map[api.ID]api.Entry{}
		for range d.roll(40) {
			x := named(id(1+d.roll(8), uint32(1+d.roll(12))), names[d.roll(1+d.roll(len(names)))])
			x.Dir = id(d.roll(2), uint32(d.roll(2)))
			if d.roll(4) == 0 {
				x.By = d.vector()
			}
			set[x.ID] = x
		}
		for _, dir := range []api.ID{{}, id(0, 1), id(1, 0), id(1, 1)} {
			inside := entry.In(listed(set), dir)
			seen := map[string]bool{}
			for _, name := range entry.Shown(inside) {
				if seen[name] || !path.Part(name) {
					t.Errorf("%q is shown twice, or is no part, of %v", name, inside)
				}
				seen[name] = true
			}
			if len(seen) != len(inside) {
				t.Errorf("%d names of %v", len(seen), inside)
			}
		}
	}
}
