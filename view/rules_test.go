package view_test

import (
	"math"
	"slices"
	"strings"
	"testing"
	"time"
	"unsafe"

	"wardship/api"
	"wardship/state"
	"wardship/view"
)

// call is a call that makes nodes, or numbers, of a state.
type call struct {
	name string
	call func(s api.State) []api.Node
}

// calls are all calls of the package, at paths of the grove.
func calls() []call {
	l := []call{
		{"Walk", walked},
		{"Lost", func(s api.State) []api.Node { return []api.Node{{Heads: view.Lost(s)}} }},
	}
	for _, at := range append(grovePaths(), "/", "/nothing", "none") {
		l = append(l,
			call{"Find of " + at, func(s api.State) []api.Node {
				n, _ := view.Find(s, at)
				return []api.Node{n}
			}},
			call{"In of " + at, func(s api.State) []api.Node {
				l, _ := view.In(s, at)
				return l
			}},
		)
	}
	return l
}

// copyOf is nodes with lists of their own.
func copyOf(l []api.Node) []api.Node {
	l = slices.Clone(l)
	for i := range l {
		l[i].Heads = slices.Clone(l[i].Heads)
	}
	return l
}

// spoil changes all that can be changed of nodes, and what lies behind the ends of their lists.
func spoil(l []api.Node) {
	l = l[:cap(l)]
	for i := range l {
		heads := l[i].Heads[:cap(l[i].Heads)]
		for k := range heads {
			heads[k] = id(8, 8)
		}
		l[i] = api.Node{Path: "spoilt", Obj: id(8, 8), Heads: heads}
	}
}

// spoilState changes all that can be changed of a state.
func spoilState(s api.State) {
	for _, o := range s.Objects {
		for k := range o.Versions {
			o.Versions[k] = api.Version{ID: id(8, 8), Data: "spoilt"}
		}
	}
	for i := range s.Objects {
		s.Objects[i] = api.Object{ID: id(8, 8), Name: "spoilt"}
	}
	for i := range s.Entries {
		s.Entries[i] = api.Entry{ID: id(8, 8), Name: "spoilt", Obj: id(8, 8)}
	}
}

// Rule 4: what is answered shares nothing with what was handed in, nor with another answer; all of them stay as they were.
func TestNodesShareNothing(t *testing.T) {
	for _, c := range calls() {
		s := grove(t)
		was := state.Clone(s)
		first, second := c.call(s), c.call(s)
		want := copyOf(first)
		isNodes(t, c.name+" again", second, want)
		spoil(first)
		if !state.Same(s, was) {
			t.Errorf("%s: what was handed in became %+v", c.name, s)
		}
		isNodes(t, c.name+", behind a change of another answer", second, want)
		isNodes(t, c.name+" once more", c.call(s), want)
		spoilState(s)
		isNodes(t, c.name+", behind a change of what was handed in", second, want)
	}
}

// Rule 4: an iterator keeps nothing of what was handed in, and no consumer can change what it yields later.
func TestWalkKeepsNothing(t *testing.T) {
	s := grove(t)
	want := copyOf(walked(s))
	all := view.Walk(s)
	spoilState(s)
	isNodes(t, "behind a change of what was handed in", slices.Collect(all), want)
	at := 0
	for n := range all {
		isNode(t, "while the consumer changes nodes", n, api.OK, want[at])
		at++
		spoil([]api.Node{n})
	}
	isNodes(t, "behind changes of nodes", slices.Collect(all), want)
	// A state that is changed while one goes over it.
	s, at = grove(t), 0
	for n := range view.Walk(s) {
		isNode(t, "while the state is changed", n, api.OK, want[at])
		at++
		spoilState(s)
	}
}

// textsOf are all paths and bytes of nodes, but for those of a single byte.
func textsOf(l []api.Node) []string {
	var out []string
	for _, n := range l {
		for _, s := range []string{n.Path, n.Data} {
			if len(s) > 1 {
				out = append(out, s)
			}
		}
	}
	return out
}

// shares tells whether a text of one list lies where one of another list does.
func shares(a, b []string) bool {
	return slices.ContainsFunc(a, func(s string) bool {
		return slices.ContainsFunc(b, func(other string) bool {
			from, to := uintptr(unsafe.Pointer(unsafe.StringData(s))), uintptr(unsafe.Pointer(unsafe.StringData(other)))
			return from < to+uintptr(len(other)) && to < from+uintptr(len(s))
		})
	})
}

// Rule 4: paths and bytes too, which nobody can change, lie in memory of their own.
func TestTextsShareNothing(t *testing.T) {
	s := grove(t)
	var given []string
	for i := range s.Objects {
		s.Objects[i].Name = strings.Clone(s.Objects[i].Name + s.Objects[i].Name)
		given = append(given, s.Objects[i].Name)
		for _, v := range s.Objects[i].Versions {
			given = append(given, v.Data)
		}
	}
	for _, x := range s.Entries {
		given = append(given, x.Name)
	}
	for _, c := range calls() {
		if first, second := c.call(s), c.call(s); shares(textsOf(first), given) || shares(textsOf(first), textsOf(second)) {
			t.Errorf("%s: texts share memory", c.name)
		}
	}
	for _, at := range grovePaths() {
		at = strings.Clone(at)
		n, _ := view.Find(s, at)
		if shares(textsOf([]api.Node{n}), []string{at}) {
			t.Errorf("the path %s shares memory with what was sought", at)
		}
	}
	all := walked(s)
	for i := range all {
		if shares(textsOf(all[:i]), textsOf(all[i:])) {
			t.Errorf("texts ahead of node %d share memory with those behind", i)
		}
	}
}

// Rule 4: what lies behind the ends of lists is neither read nor written.
func TestNothingBehindTheEnds(t *testing.T) {
	s := grove(t)
	want := copyOf(walked(s))
	behind := api.Entry{ID: id(1, 30), Name: "behind", Obj: id(1, 1)}
	objects, entries := len(s.Objects), len(s.Entries)
	s.Objects = append(s.Objects, api.Object{ID: id(1, 31), Name: "behind"})[:objects]
	s.Entries = append(s.Entries, behind)[:entries]
	for i := range s.Objects {
		n := len(s.Objects[i].Versions)
		s.Objects[i].Versions = append(s.Objects[i].Versions, api.Version{ID: id(1, 32), Data: "behind"})[:n]
	}
	isNodes(t, "with room behind the ends", walked(s), want)
	isTree(t, s)
	if s.Entries[:entries+1][entries] != behind || s.Objects[:objects+1][objects].Name != "behind" {
		t.Error("something behind an end was written")
	}
	for _, o := range s.Objects {
		if n := len(o.Versions); o.Versions[:n+1][n].Data != "behind" {
			t.Error("something behind an end was written")
		}
	}
}

// P2: what is asked in between changes no answer.
func TestNothingIsKept(t *testing.T) {
	s := grove(t)
	for _, c := range calls() {
		want := copyOf(c.call(s))
		for _, other := range calls() {
			other.call(s)
			other.call(api.State{})
			isNodes(t, c.name+" behind "+other.name, c.call(s), want)
		}
	}
}

// odd is a state that no events come to: lists in no order, numbers twice, numbers of nothing, and the root as an object.
func (d *dice) odd() api.State {
	number := func() api.ID {
		switch d.roll(12) {
		case 0:
			return api.ID{}
		case 1:
			return id([]int{math.MinInt, -1, 0, 9, math.MaxInt}[d.roll(5)], uint32(d.roll(2)*math.MaxUint32))
		}
		return id(1+d.roll(2), uint32(1+d.roll(3)))
	}
	vector := func() api.Vec {
		if d.roll(4) > 0 {
			return api.Vec{}
		}
		return api.Vec{uint32(d.roll(6)), uint32(d.roll(6)), 7: uint32(d.roll(2) * math.MaxUint32)}
	}
	name := func() string {
		return []string{"a", "b", "", "/", ".", "..", "a/b", "lost+found", "a~1.1", "\xff", "longer than any name is"}[d.roll(11)]
	}
	var s api.State
	for range d.roll(8) {
		o := api.Object{ID: number(), Dir: d.roll(3) > 0, Last: number(), Name: name(), Seen: vector()}
		for range d.roll(3) {
			o.Versions = append(o.Versions, api.Version{ID: number(), Data: name(), By: vector()})
		}
		s.Objects = append(s.Objects, o)
	}
	for range d.roll(12) {
		s.Entries = append(s.Entries, api.Entry{ID: number(), Dir: number(), Name: name(), Obj: number(), By: vector()})
	}
	return s
}

// isEnding goes over all that can be asked of a state, of whose answers nothing is promised but that they end, and are the same again.
func isEnding(t *testing.T, s api.State) {
	t.Helper()
	was := state.Clone(s)
	first := walked(s)
	if most := 4 * (len(s.Objects) + len(s.Entries) + 1); len(first) > most {
		t.Fatalf("%d nodes of\n%+v", len(first), s)
	}
	isNodes(t, "Walk again", walked(s), first)
	if !slices.Equal(view.Lost(s), view.Lost(s)) {
		t.Fatal("other ones are lost the second time")
	}
	for _, n := range append(first, api.Node{Path: "/"}, api.Node{Path: "/lost+found"}, api.Node{Path: "/a/a"}, api.Node{Path: "none"}) {
		found, err := view.Find(s, n.Path)
		if err != api.OK && !sameNode(found, api.Node{}) {
			t.Fatalf("beside an error: %+v", found)
		}
		if l, err := view.In(s, n.Path); err != api.OK && len(l) != 0 {
			t.Fatalf("beside an error: %+v", l)
		}
	}
	for range view.Walk(s) {
		break
	}
	if !state.Same(s, was) {
		t.Fatalf("what was handed in became\n%+v", s)
	}
}

// P1: states that no events come to end without a panic, and stay as they were.
func TestOddStates(t *testing.T) {
	for seed := range dice(40000) {
		d := seed * 31
		isEnding(t, d.odd())
	}
	// The root as an object that is in itself, as one that is lost, and in a ring.
	for _, dir := range []bool{true, false} {
		o := api.Object{Dir: dir, Name: "r", Versions: []api.Version{{ID: id(1, 1)}}}
		isEnding(t, api.State{Objects: []api.Object{o}})
		isEnding(t, api.State{Objects: []api.Object{o}, Entries: []api.Entry{{ID: id(1, 1), Name: "r"}}})
		d := api.Object{ID: id(1, 1), Dir: true, Name: "d"}
		isEnding(t, api.State{Objects: []api.Object{o, d}, Entries: []api.Entry{{ID: id(1, 1), Name: "d", Obj: d.ID}, {ID: id(1, 2), Dir: d.ID, Name: "r"}}})
	}
}

// P1: entries that are there twice don't let nodes be twice as many on each level.
func TestEntriesTwice(t *testing.T) {
	x := sites(t, 1)[0]
	dir := root
	for range 40 {
		dir = x.dir(dir, "d")
	}
	s := state.Clone(x.s)
	s.Entries = append(s.Entries, s.Entries...)
	isEnding(t, s)
}

// soon checks that something ends in little time.
func soon(t *testing.T, what string, do func()) {
	t.Helper()
	begin := time.Now()
	do()
	if took := time.Since(begin); took > 20*time.Second {
		t.Errorf("%s took %s", what, took)
	}
}

// row is a state with so many objects, each in what a rule says for its place in the row.
func row(n int, dir bool, in func(i int) api.ID) api.State {
	s := api.State{Known: api.Vec{uint32(n)}}
	for i := range n {
		number := id(1, uint32(i+1))
		s.Objects = append(s.Objects, api.Object{ID: number, Dir: dir, Last: number, Name: "n"})
		s.Entries = append(s.Entries, api.Entry{ID: number, Dir: in(i), Name: "n", Obj: number})
	}
	return s
}

// P1: large states end soon: wide ones, deep ones, a great ring, many small ones, long tails that hang on one.
func TestLargeStates(t *testing.T) {
	const wide, deep = 100000, 5000
	size := func(s api.State) int {
		n := 0
		for range view.Walk(s) {
			n++
		}
		return n
	}
	before := func(i int) api.ID {
		if i == 0 {
			return root
		}
		return id(1, uint32(i))
	}
	next := func(n int) func(int) api.ID { return func(i int) api.ID { return id(1, uint32((i+1)%n+1)) } }
	for _, c := range []struct {
		name string
		s    api.State
		want int
	}{
		{"files in the root", row(wide, false, func(int) api.ID { return root }), wide},
		{"directories in each other", row(deep, true, before), deep},
		{"a ring", row(deep, true, next(deep)), deep + 1},
		{"rings of one", row(wide, true, func(i int) api.ID { return id(1, uint32(i+1)) }), wide + 1},
		{"a tail on a ring of one", row(deep, true, func(i int) api.ID { return id(1, uint32(min(i+2, deep))) }), deep + 1},
	} {
		soon(t, c.name, func() {
			if got := size(c.s); got != c.want {
				t.Errorf("%s: %d nodes, not %d", c.name, got, c.want)
			}
			view.Lost(c.s)
			view.Find(c.s, "/lost+found/n~1.1/n")
			view.In(c.s, "/")
		})
	}
}
