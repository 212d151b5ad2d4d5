package table_test

import (
	"testing"

	"wardship/api"
	"wardship/table"
)

// P17.1: what a replica learns joins its own vector, whichever replica it is, and no other one's.
func TestLearnOfEachReplica(t *testing.T) {
	for rep := 1; rep <= 8; rep++ {
		v := api.Vec{90, 1, 91, 2, 92, 3, 93, 4}
		want := full()
		n := uint32(10 * rep)
		want[rep-1] = api.Vec{90, n + 2, 91, n + 4, 92, n + 6, 93, n + 8}
		learns(t, full(), rep, v, want)

		var one api.Table
		one[rep-1] = v
		learns(t, api.Table{}, rep, v, one)
	}
}

// P17.1: a number that no replica has leaves the table as it is.
func TestLearnOfNoReplica(t *testing.T) {
	for _, rep := range farReps() {
		for _, v := range []api.Vec{{}, {9}, {7: 9}, {99, 99, 99, 99, 99, 99, 99, 99}} {
			learns(t, full(), rep, v, full())
			learns(t, api.Table{}, rep, v, api.Table{})
		}
	}
}

// P17.1: a vector that is ahead at some replicas and behind at others raises just the numbers at which it is ahead.
func TestLearnAheadAndBehind(t *testing.T) {
	x := api.Table{{5, 5}, {3, 0, 7, 1}, 7: {1, 2, 3, 4, 5, 6, 7, 8}}
	learns(t, x, 2, api.Vec{1, 4, 6, 2}, api.Table{{5, 5}, {3, 4, 7, 2}, 7: {1, 2, 3, 4, 5, 6, 7, 8}})
	learns(t, x, 1, api.Vec{4, 6}, api.Table{{5, 6}, {3, 0, 7, 1}, 7: {1, 2, 3, 4, 5, 6, 7, 8}})
	learns(t, x, 8, api.Vec{8, 7, 6, 5, 4, 3, 2, 1}, api.Table{{5, 5}, {3, 0, 7, 1}, 7: {8, 7, 6, 5, 5, 6, 7, 8}})
	learns(t, x, 3, api.Vec{7: 1}, api.Table{{5, 5}, {3, 0, 7, 1}, {7: 1}, 7: {1, 2, 3, 4, 5, 6, 7, 8}})
}

// P17.1: a vector that is at most what the replica knows tells nothing new.
func TestLearnNothingNew(t *testing.T) {
	for rep := 1; rep <= 8; rep++ {
		row := full()[rep-1]
		learns(t, full(), rep, row, full())
		learns(t, full(), rep, api.Vec{}, full())
		learns(t, full(), rep, api.Vec{1, 2, 3, 4, 5, 6, 7, 8}, full())
		for k := range row {
			less := row
			less[k]--
			learns(t, full(), rep, less, full())
			learns(t, full(), rep, only(k+1, row[k]), full())
		}
	}
	learns(t, api.Table{}, 1, api.Vec{}, api.Table{})
}

// P17.1: numbers at which something changes, below each other, equal and above, at each place of each replica's vector.
func TestLearnAtTheEdges(t *testing.T) {
	for rep := 1; rep <= 8; rep++ {
		for k := range 8 {
			for _, n := range edges() {
				for _, m := range edges() {
					x, want := full(), full()
					x[rep-1][k] = n
					want[rep-1][k] = max(n, m)
					learns(t, x, rep, only(k+1, m), want)
				}
			}
		}
	}
}

// P17.1: two tables, each of which is ahead somewhere, join number by number.
func TestJoin(t *testing.T) {
	a := api.Table{{2, 1}, {0, 9}, {4, 4, 4}, 7: {7: 6}}
	b := api.Table{{1, 3}, {8}, 3: {0, 0, 5}, 7: {0: 1, 7: 5}}
	joins(t, a, b, api.Table{{2, 3}, {8, 9}, {4, 4, 4}, {0, 0, 5}, 7: {0: 1, 7: 6}})
}

// P17.1: at each place the greater number counts, whichever table has it.
func TestJoinAtEachPlace(t *testing.T) {
	for i := range 8 {
		for k := range 8 {
			for _, n := range edges() {
				a, b, want := full(), full(), full()
				a[i][k], b[7-i][7-k] = n, 0
				want[i][k] = max(n, full()[i][k])
				joins(t, a, b, want)
			}
		}
	}
}

// P17.1: the zero table adds nothing, nor does a table to itself.
func TestJoinWithNothing(t *testing.T) {
	for _, x := range []api.Table{{}, full(), {7: {7: 1}}, {{1}}, {{2}, {1, 3}}} {
		joins(t, x, api.Table{}, x)
		joins(t, x, x, x)
	}
}

// P17.1: a row is the replica's vector, and the zero vector for a number that no replica has.
func TestRow(t *testing.T) {
	for rep := 1; rep <= 8; rep++ {
		n := uint32(10 * rep)
		hasRow(t, full(), rep, api.Vec{n + 1, n + 2, n + 3, n + 4, n + 5, n + 6, n + 7, n + 8})
		hasRow(t, api.Table{}, rep, api.Vec{})
		var one api.Table
		one[rep-1] = api.Vec{7: 3}
		for other := 1; other <= 8; other++ {
			want := api.Vec{}
			if other == rep {
				want = api.Vec{7: 3}
			}
			hasRow(t, one, other, want)
		}
	}
	for _, rep := range farReps() {
		hasRow(t, full(), rep, api.Vec{})
		hasRow(t, api.Table{}, rep, api.Vec{})
	}
}

// P17.1: calls by chance, held against the chapter's words told anew.
func TestTablesByChance(t *testing.T) {
	for seed := range dice(20000) {
		d := seed * 7
		most := 1 + d.roll(12)
		a, b, v := d.table(most), d.table(most), d.vector(most)
		rep := d.number()
		learns(t, a, rep, v, expectLearn(a, rep, v))
		joins(t, a, b, expectJoin(a, b))
		hasRow(t, a, rep, expectRow(a, rep))
		hasRow(t, table.Learn(a, rep, v), rep, expectRow(expectLearn(a, rep, v), rep))
	}
}
