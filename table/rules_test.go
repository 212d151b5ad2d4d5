package table_test

import (
	"math"
	"reflect"
	"testing"

	"wardship/api"
	"wardship/table"
)

// asked is all that is handed in.
type asked struct {
	a, b api.Table
	rep  int
	v    api.Vec
	who  set
	s    api.State
}

// answers is all that the package says of it.
type answers struct {
	learnt, joined api.Table
	row, sure, all api.Vec
	who            set
	other          int
}

// ask asks all of it, and checks that the arguments stay what they were.
func ask(t *testing.T, x asked) answers {
	t.Helper()
	was := x
	r := answers{
		learnt: table.Learn(x.a, x.rep, x.v),
		joined: table.Join(x.a, x.b),
		row:    table.Row(x.a, x.rep),
		sure:   table.Sure(x.a, x.who),
		all:    table.All(x.a),
		who:    table.Who(x.s, x.who),
		other:  table.Else(x.a, x.rep, x.who, x.v),
	}
	if x.a != was.a || x.b != was.b || x.v != was.v || x.who != was.who || !reflect.DeepEqual(x.s, was.s) {
		t.Fatalf("%v became %v", was, x)
	}
	return r
}

// asks are things to ask, with numbers that no replica has, and with numbers of all sizes.
func asks() []asked {
	var l []asked
	for seed := range dice(3000) {
		d := seed * 23
		most := 1 + d.roll(9)
		l = append(l, asked{d.table(most), d.table(most), d.number(), d.vector(most), d.set(), crowded(d.set())})
	}
	return l
}

// crowded is a state in which some are retired, with lists of its own.
func crowded(retired set) api.State {
	return api.State{
		Known:   api.Vec{3, 1},
		Objects: []api.Object{{ID: api.ID{Rep: 1, Seq: 1}, Name: "a", Versions: []api.Version{{ID: api.ID{Rep: 1, Seq: 2}, Data: "x"}}}},
		Entries: []api.Entry{{ID: api.ID{Rep: 1, Seq: 1}, Name: "a", Obj: api.ID{Rep: 1, Seq: 1}}},
		Wards:   [api.MaxRep]int{1, 2},
		Retired: retired,
	}
}

// P2: what a call answers hangs on its arguments alone, in whatever order things are asked.
func TestCallsHangOnTheirArguments(t *testing.T) {
	l := asks()
	var first []answers
	for _, x := range l {
		first = append(first, ask(t, x))
	}
	for i := len(l) - 1; i >= 0; i-- {
		if got := ask(t, l[i]); got != first[i] {
			t.Errorf("%v: %v, then %v", l[i], first[i], got)
		}
	}
}

// P1: no call panics, whatever number it is given, and all answers are as the chapter says.
func TestFarNumbers(t *testing.T) {
	most := uint32(math.MaxUint32)
	high := api.Vec{most, most, most, most, most, most, most, most}
	tables := []api.Table{{}, full(), {high, high, high, high, high, high, high, high}}
	for _, rep := range append(farReps(), 1, 2, 7, 8) {
		for _, x := range tables {
			for _, v := range []api.Vec{{}, high, {7: 1}} {
				for _, who := range []set{{}, of(1), of(8), of(1, 2, 3, 4, 5, 6, 7, 8)} {
					got := ask(t, asked{x, full(), rep, v, who, crowded(of(2))})
					want := answers{expectLearn(x, rep, v), expectJoin(x, full()), expectRow(x, rep), expectSure(x, who), expectAll(x), expectWho(crowded(of(2)), who), expectElse(x, rep, who, v)}
					if got != want {
						t.Errorf("%v, %d, %v, %v: %v, want %v", x, rep, v, members(who), got, want)
					}
				}
			}
		}
	}
}

// Rule 4: the state that is handed in stays as it was.
func TestStateStays(t *testing.T) {
	for _, retired := range sets() {
		s := crowded(retired)
		got := table.Who(s, of(1, 3, 5, 7))
		for i := range got {
			got[i] = !got[i]
		}
		if !reflect.DeepEqual(s, crowded(retired)) {
			t.Fatalf("%v became %v", crowded(retired), s)
		}
		if again := table.Who(s, of(1, 3, 5, 7)); again != expectWho(s, of(1, 3, 5, 7)) {
			t.Errorf("%v, behind a change of the first answer", members(again))
		}
	}
}

// Rule 4: a change of an answer shows neither in what was handed in nor in another answer, and a change of what was handed in not in an answer.
func TestTablesShareNothing(t *testing.T) {
	a, b := full(), apart()
	first, second := table.Join(a, b), table.Join(a, b)
	learnt, row, all, sure := table.Learn(a, 1, api.Vec{99}), table.Row(a, 1), table.All(a), table.Sure(a, of(1))
	for i := range first {
		first[i] = api.Vec{77}
	}
	if a != full() || b != apart() || second != expectJoin(full(), apart()) {
		t.Errorf("a change of what was joined shows in %v, %v, %v", a, b, second)
	}
	for i := range a {
		a[i] = api.Vec{}
	}
	if learnt != expectLearn(full(), 1, api.Vec{99}) || row != full()[0] || all != full()[7] || sure != full()[0] {
		t.Errorf("a change of the table shows in %v, %v, %v, %v", learnt, row, all, sure)
	}
}
