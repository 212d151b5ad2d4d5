package table_test

import (
	"math"
	"testing"

	"wardship/api"
	"wardship/table"
	"wardship/vec"
)

// The chapter's example.
func TestExample(t *testing.T) {
	one, e := vec.Read("1:2")
	two, f := vec.Read("1:1 2:3")
	if e != api.OK || f != api.OK {
		t.Fatal(e, f)
	}
	x := table.Learn(table.Learn(api.Table{}, 1, one), 2, two)
	if got := vec.Write(table.Sure(x, of(1, 2))); got != "1:1" {
		t.Errorf("Sure = %q", got)
	}
	if got := vec.Write(table.All(x)); got != "1:2 2:3" {
		t.Errorf("All = %q", got)
	}
}

// apart is a table of rows none of which is at least another one.
func apart() api.Table {
	return api.Table{{1, 2, 3, 4, 5, 6, 7, 8}, {2, 3, 4, 5, 6, 7, 8, 1}, {3, 4, 5, 6, 7, 8, 1, 2}, {4, 5, 6, 7, 8, 1, 2, 3}, {5, 6, 7, 8, 1, 2, 3, 4}, {6, 7, 8, 1, 2, 3, 4, 5}, {7, 8, 1, 2, 3, 4, 5, 6}, {8, 1, 2, 3, 4, 5, 6, 7}}
}

// P17.2: nothing is sure of no replica, of one all that it knows, of some what they all know.
func TestSure(t *testing.T) {
	for _, x := range []api.Table{{}, full(), apart(), {{math.MaxUint32, math.MaxUint32}}} {
		isSure(t, x, set{}, api.Vec{})
		for rep := 1; rep <= 8; rep++ {
			isSure(t, x, of(rep), x[rep-1])
		}
	}
	isSure(t, apart(), of(1, 2), api.Vec{1, 2, 3, 4, 5, 6, 7, 1})
	isSure(t, apart(), of(1, 8), api.Vec{1, 1, 2, 3, 4, 5, 6, 7})
	isSure(t, apart(), of(2, 4, 7), api.Vec{2, 3, 1, 2, 3, 1, 2, 1})
	isSure(t, apart(), of(1, 2, 3, 4, 5, 6, 7, 8), api.Vec{1, 1, 1, 1, 1, 1, 1, 1})
	isSure(t, full(), of(3, 5, 8), full()[2])
	isSure(t, full(), of(1, 2, 3, 4, 5, 6, 7, 8), full()[0])
	isSure(t, api.Table{{2}, {1, 3}}, of(1, 2), api.Vec{1})
	isSure(t, api.Table{{2}, {1, 3}}, of(1, 2, 3), api.Vec{})
	isSure(t, api.Table{{2}, {0, 3}}, of(1, 2), api.Vec{})
}

// P17.2: those that aren't of the set don't count, however little or much they know.
func TestSureWithoutOthers(t *testing.T) {
	for _, who := range sets() {
		var low, high api.Table
		for i := range who {
			if who[i] {
				low[i], high[i] = full()[i], full()[i]
			} else {
				high[i] = api.Vec{math.MaxUint32, math.MaxUint32, 99, 99, 99, 99, 99, math.MaxUint32}
			}
		}
		want := api.Vec{}
		if reps := members(who); len(reps) > 0 {
			want = full()[reps[0]-1]
		}
		isSure(t, low, who, want)
		isSure(t, high, who, want)
	}
}

// P17.2: each set of replicas, of rows of all kinds.
func TestSureOfEachSet(t *testing.T) {
	d := dice(17)
	tables := []api.Table{{}, full(), apart(), table.Learn(apart(), 8, api.Vec{9, 9, 9}), {{2}, {1, 3}}}
	for range 200 {
		tables = append(tables, d.table(5))
	}
	for _, x := range tables {
		for _, who := range sets() {
			isSure(t, x, who, expectSure(x, who))
		}
	}
}

// P17.2: at each place the least number counts, at the numbers where something changes, too.
func TestSureAtTheEdges(t *testing.T) {
	for k := range 8 {
		for _, n := range edges() {
			for _, m := range edges() {
				x := api.Table{1: only(k+1, n), 6: only(k+1, m)}
				isSure(t, x, of(2, 7), only(k+1, min(n, m)))
				isSure(t, x, of(2), only(k+1, n))
				isSure(t, x, of(7), only(k+1, m))
			}
		}
	}
}

// P17.2: All is what any replica knows: nothing in the zero table, one row if it is the only one, of several the greatest numbers.
func TestAll(t *testing.T) {
	isAll(t, api.Table{}, api.Vec{})
	isAll(t, full(), full()[7])
	isAll(t, apart(), api.Vec{8, 8, 8, 8, 8, 8, 8, 8})
	isAll(t, api.Table{{2}, {1, 3}}, api.Vec{2, 3})
	isAll(t, api.Table{2: {0, 5, 1}, 4: {4, 0, 2}, 7: {7: 1}}, api.Vec{4, 5, 2, 7: 1})
	for i := range 8 {
		for k := range 8 {
			for _, n := range edges() {
				var one api.Table
				one[i] = only(k+1, n)
				isAll(t, one, one[i])
				one[(i+3)%8] = only((k+5)%8+1, 3)
				both := one[i]
				both[(k+5)%8] = 3
				isAll(t, one, both)
			}
		}
	}
}

// P17.2: tables by chance, held against the chapter's words told anew.
func TestSureAndAllByChance(t *testing.T) {
	for seed := range dice(20000) {
		d := seed * 11
		x := d.table(1 + d.roll(12))
		who := d.set()
		isSure(t, x, who, expectSure(x, who))
		isAll(t, x, expectAll(x))
	}
}
