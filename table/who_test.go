package table_test

import (
	"testing"

	"wardship/api"
	"wardship/table"
)

// P17.2: those of the roster that are not retired.
func TestWho(t *testing.T) {
	all := of(1, 2, 3, 4, 5, 6, 7, 8)
	are(t, set{}, set{}, set{})
	are(t, all, set{}, set{})
	are(t, set{}, all, all)
	are(t, all, all, set{})
	are(t, of(1), of(1, 2), of(2))
	are(t, of(8), of(7, 8), of(7))
	are(t, of(2, 4), of(1, 2, 3, 4), of(1, 3))
	are(t, of(3, 5), of(1, 2), of(1, 2))
	are(t, of(2, 5), of(1, 2), of(1))
	are(t, of(1, 2), of(1, 2), set{})
}

// P17.2: each roster, with each set of the retired; who is not of the roster, or retired, is not among them, and all others are.
func TestWhoOfEachSet(t *testing.T) {
	for _, roster := range sets() {
		for _, retired := range sets() {
			got := table.Who(api.State{Retired: retired}, roster)
			for i := range 8 {
				if got[i] != (roster[i] && !retired[i]) {
					t.Fatalf("Who of %v, of whom %v retired: %v", members(roster), members(retired), members(got))
				}
			}
		}
	}
}

// P17.2: nothing else of the state counts.
func TestWhoByTheRetiredAlone(t *testing.T) {
	s := api.State{
		Known:   api.Vec{9, 9, 9, 9, 9, 9, 9, 9},
		Objects: []api.Object{{ID: api.ID{Rep: 2, Seq: 1}, Dir: true, Name: "d"}},
		Entries: []api.Entry{{ID: api.ID{Rep: 2, Seq: 1}, Name: "d", Obj: api.ID{Rep: 2, Seq: 1}}},
		Wards:   [api.MaxRep]int{4, 3, 2, 1, 77, -1},
		Retired: of(2, 6),
	}
	if got := table.Who(s, of(1, 2, 3, 7)); got != of(1, 3, 7) {
		t.Errorf("%v", members(got))
	}
	if got := table.Who(api.State{Known: s.Known, Wards: s.Wards}, of(1, 2, 6)); got != of(1, 2, 6) {
		t.Errorf("%v", members(got))
	}
}

// known is a table in which 2, 4 and 8 know 1:3 2:3 3:3, 1 and 5 don't quite, and 6 knows all of it and more.
func known() api.Table {
	return api.Table{0: {3, 3, 2}, 1: {3, 3, 3}, 3: {3, 3, 3}, 4: {9, 2, 9, 9}, 5: {4, 3, 3, 1}, 7: {3, 3, 3}}
}

// P17.2: the first other replica of the set that knows the vector; 0, if nobody does.
func TestElse(t *testing.T) {
	v := api.Vec{3, 3, 3}
	all := of(1, 2, 3, 4, 5, 6, 7, 8)
	finds(t, known(), 1, set{}, v, 0)
	finds(t, known(), 2, of(2), v, 0)
	finds(t, known(), 8, of(8), v, 0)
	finds(t, known(), 2, of(2, 4), v, 4)
	finds(t, known(), 4, of(2, 4), v, 2)
	finds(t, known(), 8, of(2, 8), v, 2)
	finds(t, known(), 2, of(2, 8), v, 8)
	finds(t, known(), 1, all, v, 2)
	finds(t, known(), 2, all, v, 4)
	finds(t, known(), 7, of(8, 6, 4), v, 4)
	finds(t, known(), 7, of(8, 6), v, 6)
	finds(t, known(), 2, of(1, 5), v, 0)
	finds(t, known(), 2, of(1, 5, 8), v, 8)
	finds(t, known(), 2, of(1, 2, 3, 5, 7), v, 0)
	finds(t, known(), 6, all, api.Vec{4, 3, 3, 1}, 0)
	finds(t, known(), 2, all, api.Vec{4, 3, 3, 1}, 6)
	finds(t, known(), 5, all, api.Vec{5}, 0)
	finds(t, known(), 1, all, api.Vec{5}, 5)
	finds(t, known(), 1, all, api.Vec{10}, 0)
}

// P17.2: a single number that is too small is enough for a replica not to know the vector, at each place.
func TestElseAtEachPlace(t *testing.T) {
	v := api.Vec{5, 5, 5, 5, 5, 5, 5, 5}
	for k := range 8 {
		for _, n := range edges() {
			for rep := 1; rep <= 8; rep++ {
				var x api.Table
				x[rep-1] = v
				x[rep-1][k] = n
				want := 0
				if n >= 5 {
					want = rep
				}
				finds(t, x, 0, of(1, 2, 3, 4, 5, 6, 7, 8), v, want)
				finds(t, x, rep, of(1, 2, 3, 4, 5, 6, 7, 8), v, 0)
			}
		}
	}
}

// P17.2: each knows the zero vector, also one that is known to know nothing.
func TestElseOfTheZeroVector(t *testing.T) {
	for _, x := range []api.Table{{}, known(), full()} {
		for _, who := range sets() {
			for self := -1; self <= 10; self++ {
				want := 0
				for rep := 8; rep > 0; rep-- {
					if who[rep-1] && rep != self {
						want = rep
					}
				}
				finds(t, x, self, who, api.Vec{}, want)
			}
		}
	}
}

// P17.2: a self that is no replica's number is other than all.
func TestElseOfNoReplica(t *testing.T) {
	v := api.Vec{3, 3, 3}
	for _, self := range farReps() {
		finds(t, known(), self, of(2), v, 2)
		finds(t, known(), self, of(1, 8), v, 8)
		finds(t, known(), self, of(1, 2, 3, 4, 5, 6, 7, 8), v, 2)
		finds(t, known(), self, of(1, 3, 5, 7), v, 0)
		finds(t, known(), self, set{}, v, 0)
		finds(t, full(), self, of(1), full()[0], 1)
	}
}

// P17.2: calls by chance, held against the chapter's words told anew.
func TestWhoAndElseByChance(t *testing.T) {
	for seed := range dice(20000) {
		d := seed * 13
		most := 1 + d.roll(4)
		x, who, retired := d.table(most), d.set(), d.set()
		are(t, retired, who, expectWho(api.State{Retired: retired}, who))
		for rep := range 8 {
			self, v := d.number(), x[rep]
			if d.roll(3) > 0 {
				v[d.roll(8)] = uint32(d.roll(most))
			}
			finds(t, x, self, who, v, expectElse(x, self, who, v))
		}
	}
}
