package table_test

import (
	"iter"
	"slices"
	"testing"

	"wardship/api"
	"wardship/table"
)

// telling is that a replica knows a vector.
type telling struct {
	rep int
	v   api.Vec
}

// learnt is a table behind some tellings; on the way Sure must not fall for any of some sets.
func learnt(t *testing.T, begin api.Table, tellings []telling, sets []set) api.Table {
	t.Helper()
	x := begin
	for _, y := range tellings {
		next := table.Learn(x, y.rep, y.v)
		for _, who := range sets {
			before, after := table.Sure(x, who), table.Sure(next, who)
			if !atLeast(after, before) {
				t.Fatalf("Sure of %v falls from %v to %v by %v", members(who), before, after, y)
			}
		}
		x = next
	}
	return x
}

// orders are all orders of some tellings.
func orders(l []telling) iter.Seq[[]telling] {
	return func(yield func([]telling) bool) {
		if len(l) == 0 {
			yield(nil)
			return
		}
		for i := range l {
			for rest := range orders(slices.Concat(l[:i], l[i+1:])) {
				if !yield(append([]telling{l[i]}, rest...)) {
					return
				}
			}
		}
	}
}

// some are tellings of two replicas that overlap, the first and the last replica, and one that there isn't.
func some() []telling {
	return []telling{{1, api.Vec{2, 0, 5}}, {1, api.Vec{1, 3, 5}}, {8, api.Vec{7: 4}}, {8, api.Vec{6: 1, 7: 3}}, {9, api.Vec{9, 9, 9}}, {3, api.Vec{2, 2, 2, 2, 2, 2, 2, 2}}}
}

// P17.3: what is learnt in each order comes to the same table, and Sure never falls, for any set of replicas.
func TestLearnInEachOrder(t *testing.T) {
	want := api.Table{0: {2, 3, 5}, 2: {2, 2, 2, 2, 2, 2, 2, 2}, 7: {6: 1, 7: 4}}
	for l := range orders(some()) {
		if got := learnt(t, api.Table{}, l, sets()); got != want {
			t.Fatalf("%v comes to %v", l, got)
		}
	}
}

// P17.3: what is learnt twice, at once or later, comes to the same table as what is learnt once.
func TestLearnTwice(t *testing.T) {
	want := learnt(t, full(), some(), sets())
	for i, again := range some() {
		for at := i; at <= len(some()); at++ {
			if got := learnt(t, full(), slices.Insert(some(), at, again), sets()); got != want {
				t.Errorf("%v once more behind %d: %v", again, at, got)
			}
		}
	}
	if got := learnt(t, want, some(), sets()); got != want {
		t.Errorf("all of it once more: %v", got)
	}
}

// P17.3: Sure rises just where each replica of the set has learnt more.
func TestSureRises(t *testing.T) {
	x := api.Table{{2}, {1, 3}, {1, 1, 1}}
	isSure(t, x, of(1, 2), api.Vec{1})
	x = table.Learn(x, 1, api.Vec{0, 2})
	isSure(t, x, of(1, 2), api.Vec{1, 2})
	isSure(t, x, of(1, 2, 3), api.Vec{1, 1})
	x = table.Learn(x, 2, api.Vec{9, 0, 9})
	isSure(t, x, of(1, 2), api.Vec{2, 2})
	isSure(t, x, of(1, 2, 3), api.Vec{1, 1})
	x = table.Learn(x, 3, api.Vec{2, 9})
	isSure(t, x, of(1, 2, 3), api.Vec{2, 2})
	isSure(t, x, of(1, 2, 3, 4), api.Vec{})
}

// shuffled is tellings in an order by chance, some of them more than once.
func (d *dice) shuffled(l []telling) []telling {
	all := slices.Clone(l)
	for range d.roll(6) {
		all = append(all, l[d.roll(len(l))])
	}
	for i := range all {
		k := i + d.roll(len(all)-i)
		all[i], all[k] = all[k], all[i]
	}
	return all
}

// P17.3: long rows of tellings by chance, in several orders, some of them more than once.
func TestLearnByChance(t *testing.T) {
	every := sets()
	for seed := range dice(400) {
		d := seed * 17
		most := 1 + d.roll(9)
		begin, want := api.Table{}, api.Table{}
		if d.roll(2) == 0 {
			begin = d.table(most)
			want = begin
		}
		var l []telling
		for range 1 + d.roll(15) {
			y := telling{d.number(), d.vector(most)}
			l = append(l, y)
			want = expectLearn(want, y.rep, y.v)
		}
		for range 5 {
			if got := learnt(t, begin, d.shuffled(l), every); got != want {
				t.Fatalf("%v comes to %v, want %v", l, got, want)
			}
		}
	}
}

// P17.3: it makes no difference who of several learnt what, once their tables are joined, in each order and more than once.
func TestLearnApart(t *testing.T) {
	for seed := range dice(2000) {
		d := seed * 19
		var parts [3]api.Table
		var whole api.Table
		for range 12 {
			rep, v, at := d.number(), d.vector(6), d.roll(3)
			parts[at] = table.Learn(parts[at], rep, v)
			whole = table.Learn(whole, rep, v)
		}
		a, b, c := parts[0], parts[1], parts[2]
		joins(t, table.Join(a, b), c, whole)
		joins(t, a, table.Join(b, c), whole)
		joins(t, table.Join(a, table.Join(c, a)), table.Join(c, b), whole)
		joins(t, whole, b, whole)
		for range 8 {
			who := d.set()
			if low, high := table.Sure(a, who), table.Sure(whole, who); !atLeast(high, low) {
				t.Fatalf("Sure of %v falls from %v to %v", members(who), low, high)
			}
		}
	}
}
