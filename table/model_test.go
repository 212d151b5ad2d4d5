package table_test

import (
	"math"
	"math/bits"
	"slices"
	"testing"

	"wardship/api"
	"wardship/table"
)

// set is a set of replicas.
type set = [api.MaxRep]bool

// of is the set of some replicas.
func of(reps ...int) set {
	var who set
	for _, rep := range reps {
		who[rep-1] = true
	}
	return who
}

// members are the numbers of the replicas of a set, rising.
func members(who set) []int {
	var reps []int
	for i, in := range who {
		if in {
			reps = append(reps, i+1)
		}
	}
	return reps
}

// sets are all sets of replicas.
func sets() []set {
	var all []set
	for n := range 1 << 8 {
		var who set
		for i := range who {
			who[i] = n>>i&1 == 1
		}
		all = append(all, who)
	}
	return all
}

// farReps is numbers that no replica has: next to those that there are, and far beyond, where a narrower integer would wrap round into these.
func farReps() []int {
	return []int{0, 9, -1, -7, -8, 10, 256, 257, 264, 1<<16 + 1, 1<<(bits.UintSize/2) + 1, -1<<(bits.UintSize/2) + 1, math.MaxInt, math.MaxInt - 7, math.MinInt, math.MinInt + 1}
}

// edges is numbers of events at which something changes.
func edges() []uint32 {
	return []uint32{0, 1, 2, api.MaxSeq - 1, api.MaxSeq, api.MaxSeq + 1, 1 << 31, math.MaxUint32 - 1, math.MaxUint32}
}

// only is the vector with a number for one replica.
func only(rep int, n uint32) api.Vec {
	var v api.Vec
	v[rep-1] = n
	return v
}

// full is a table in which each number is another one: of replica i and the events of replica k it is 10i + k.
func full() api.Table {
	var t api.Table
	for i := range t {
		for k := range t[i] {
			t[i][k] = uint32(10*(i+1) + k + 1)
		}
	}
	return t
}

// column is the numbers that the rows have for the replica at one place.
func column(rows []api.Vec, k int) []uint32 {
	var l []uint32
	for _, v := range rows {
		l = append(l, v[k])
	}
	return l
}

// rowsOf are the vectors of the replicas of a set.
func rowsOf(t api.Table, who set) []api.Vec {
	var rows []api.Vec
	for _, rep := range members(who) {
		rows = append(rows, t[rep-1])
	}
	return rows
}

// atLeast tells whether each number of v is at least that of low.
func atLeast(v, low api.Vec) bool {
	enough := 0
	for k := range 8 {
		if v[k] >= low[k] {
			enough++
		}
	}
	return enough == 8
}

// expectLearn is what the chapter says of Learn, told anew.
func expectLearn(t api.Table, rep int, v api.Vec) api.Table {
	want := t
	for i := range 8 {
		for k := range 8 {
			if i+1 == rep && v[k] > t[i][k] {
				want[i][k] = v[k]
			}
		}
	}
	return want
}

// expectJoin is what the chapter says of Join, told anew.
func expectJoin(a, b api.Table) api.Table {
	var want api.Table
	for i := range 8 {
		for k := range 8 {
			want[i][k] = slices.Max([]uint32{a[i][k], b[i][k]})
		}
	}
	return want
}

// expectRow is what the chapter says of Row, told anew.
func expectRow(t api.Table, rep int) api.Vec {
	rows := map[int]api.Vec{}
	for i := range 8 {
		rows[i+1] = t[i]
	}
	return rows[rep]
}

// expectSure is what the chapter says of Sure, told anew.
func expectSure(t api.Table, who set) api.Vec {
	var want api.Vec
	if rows := rowsOf(t, who); len(rows) > 0 {
		for k := range 8 {
			want[k] = slices.Min(column(rows, k))
		}
	}
	return want
}

// expectAll is what the chapter says of All, told anew.
func expectAll(t api.Table) api.Vec {
	var want api.Vec
	for k := range 8 {
		want[k] = slices.Max(column(t[:], k))
	}
	return want
}

// expectWho is what the chapter says of Who, told anew.
func expectWho(s api.State, roster set) set {
	return of(slices.DeleteFunc(members(roster), func(rep int) bool { return slices.Contains(members(s.Retired), rep) })...)
}

// expectElse is what the chapter says of Else, told anew.
func expectElse(t api.Table, self int, who set, v api.Vec) int {
	for _, rep := range members(who) {
		if rep != self && atLeast(t[rep-1], v) {
			return rep
		}
	}
	return 0
}

// learns checks what Learn answers.
func learns(t *testing.T, x api.Table, rep int, v api.Vec, want api.Table) {
	t.Helper()
	if got := table.Learn(x, rep, v); got != want {
		t.Errorf("Learn(%v, %d, %v) = %v, want %v", x, rep, v, got, want)
	}
}

// joins checks what Join answers, both ways round.
func joins(t *testing.T, a, b, want api.Table) {
	t.Helper()
	if got := table.Join(a, b); got != want {
		t.Errorf("Join(%v, %v) = %v, want %v", a, b, got, want)
	}
	if got := table.Join(b, a); got != want {
		t.Errorf("Join(%v, %v) = %v, want %v", b, a, got, want)
	}
}

// hasRow checks what Row answers.
func hasRow(t *testing.T, x api.Table, rep int, want api.Vec) {
	t.Helper()
	if got := table.Row(x, rep); got != want {
		t.Errorf("Row(%v, %d) = %v, want %v", x, rep, got, want)
	}
}

// isSure checks what Sure answers.
func isSure(t *testing.T, x api.Table, who set, want api.Vec) {
	t.Helper()
	if got := table.Sure(x, who); got != want {
		t.Errorf("Sure(%v, %v) = %v, want %v", x, members(who), got, want)
	}
}

// isAll checks what All answers.
func isAll(t *testing.T, x api.Table, want api.Vec) {
	t.Helper()
	if got := table.All(x); got != want {
		t.Errorf("All(%v) = %v, want %v", x, got, want)
	}
}

// are checks what Who answers of a state in which some are retired.
func are(t *testing.T, retired, roster, want set) {
	t.Helper()
	if got := table.Who(api.State{Retired: retired}, roster); got != want {
		t.Errorf("Who of %v, of whom %v retired: %v, want %v", members(roster), members(retired), members(got), members(want))
	}
}

// finds checks what Else answers.
func finds(t *testing.T, x api.Table, self int, who set, v api.Vec, want int) {
	t.Helper()
	if got := table.Else(x, self, who, v); got != want {
		t.Errorf("Else(%v, %d, %v, %v) = %d, want %d", x, self, members(who), v, got, want)
	}
}

// dice is numbers that a plain rule makes of a seed.
type dice uint32

// roll is a number below n.
func (d *dice) roll(n int) int {
	*d = *d*1664525 + 1013904223
	return int(uint32(*d)>>8) % n
}

// vector is a vector of a few numbers below most, or of numbers at which something changes.
func (d *dice) vector(most int) api.Vec {
	var v api.Vec
	for k := range v {
		switch d.roll(8) {
		case 0:
		case 1:
			v[k] = edges()[d.roll(len(edges()))]
		default:
			v[k] = uint32(d.roll(most))
		}
	}
	return v
}

// table is a table of which some rows may be zero.
func (d *dice) table(most int) api.Table {
	var t api.Table
	for i := range t {
		if d.roll(6) > 0 {
			t[i] = d.vector(most)
		}
	}
	return t
}

// set is a set of replicas.
func (d *dice) set() set {
	var who set
	n := d.roll(256)
	for i := range who {
		who[i] = n>>i&1 == 1
	}
	return who
}

// number is mostly a replica's number.
func (d *dice) number() int {
	if d.roll(5) == 0 {
		return farReps()[d.roll(len(farReps()))]
	}
	return 1 + d.roll(8)
}
