package volume_test

import (
	"math"
	"slices"
	"strings"
	"testing"
	"time"
	"unsafe"

	"wardship/api"
	"wardship/event"
	"wardship/state"
	"wardship/volume"
)

// answers are all that the package answers.
type answers struct {
	events []api.Event
	nodes  []api.Node
	texts  []string
	lists  [][]string
	errs   []api.Errno
}

// groveOps are operations of all verbs, of which most are done in the grove.
func groveOps() []api.Op {
	return []api.Op{
		{Verb: "create", Path: "/d/e/new"}, {Verb: "mkdir", Path: "/newer"}, {Verb: "write", Path: "/d/e/f", N: 3, Data: "bytes"}, {Verb: "write", Path: "/z", Data: "bytes"},
		{Verb: "cut", Path: "/d/e/f", N: 2}, {Verb: "fix", Path: "/c", Data: "bytes"}, {Verb: "remove", Path: "/void"}, {Verb: "remove", Path: "/d/g"}, {Verb: "remove", Path: "/d"},
		{Verb: "rename", Path: "/d", To: "/void/new"}, {Verb: "rename", Path: "/lost+found/p~1.7", To: "/newer"}, {Verb: "seat", N: 2}, {Verb: "retire"}, {Verb: "none"},
	}
}

// cloned is texts in memory of their own.
func cloned(l []string) []string {
	own := make([]string, len(l))
	for i, s := range l {
		own[i] = strings.Clone(s)
	}
	return own
}

// ask asks all that can be asked of a state, with texts of its own, which are told as well.
func ask(s api.State, chosen []string) (answers, []string) {
	var a answers
	var given []string
	for _, op := range groveOps() {
		op.Verb, op.Path, op.To, op.Data = strings.Clone(op.Verb), strings.Clone(op.Path), strings.Clone(op.To), strings.Clone(op.Data)
		given = append(given, op.Verb, op.Path, op.To, op.Data)
		e, err := volume.Do(s, 2, chosen, op)
		a.events, a.errs = append(a.events, e), append(a.errs, err)
	}
	for _, at := range append(cloned(grovePaths()), "/", "/none", "none") {
		given = append(given, at)
		n, err := volume.Stat(s, chosen, at)
		text, other := volume.Read(s, chosen, at)
		a.nodes, a.texts, a.errs = append(a.nodes, n), append(a.texts, text), append(a.errs, err, other)
		versions, err := volume.Versions(s, chosen, at)
		names, other := volume.List(s, chosen, at)
		a.lists, a.errs = append(a.lists, versions, names), append(a.errs, err, other)
	}
	a.nodes = slices.AppendSeq(a.nodes, volume.Walk(s, chosen))
	return a, given
}

// sameAnswers tells whether answers are equal, field by field.
func sameAnswers(a, b answers) bool {
	return slices.EqualFunc(a.events, b.events, event.Same) && slices.EqualFunc(a.nodes, b.nodes, sameNode) &&
		slices.Equal(a.texts, b.texts) && slices.EqualFunc(a.lists, b.lists, slices.Equal) && slices.Equal(a.errs, b.errs)
}

// copyOf is answers with lists of their own.
func copyOf(a answers) answers {
	a.events, a.nodes, a.texts, a.lists, a.errs = slices.Clone(a.events), slices.Clone(a.nodes), slices.Clone(a.texts), slices.Clone(a.lists), slices.Clone(a.errs)
	for i := range a.events {
		a.events[i].Base, a.events[i].Gone = slices.Clone(a.events[i].Base), slices.Clone(a.events[i].Gone)
	}
	for i := range a.nodes {
		a.nodes[i].Heads = slices.Clone(a.nodes[i].Heads)
	}
	for i := range a.lists {
		a.lists[i] = slices.Clone(a.lists[i])
	}
	return a
}

// spoilIDs changes all numbers that a list can reach.
func spoilIDs(l []api.ID) {
	l = l[:cap(l)]
	for i := range l {
		l[i] = id(8, 8)
	}
}

// spoil changes all that answers can reach.
func spoil(a answers) {
	for _, e := range a.events {
		spoilIDs(e.Base)
		spoilIDs(e.Gone)
	}
	for _, n := range a.nodes {
		spoilIDs(n.Heads)
	}
	for _, l := range a.lists {
		l = l[:cap(l)]
		for i := range l {
			l[i] = "spoilt"
		}
	}
}

// spoilState changes all that a state can reach.
func spoilState(s api.State) {
	for _, o := range s.Objects {
		for i := range o.Versions {
			o.Versions[i] = api.Version{ID: id(8, 8), Data: "spoilt"}
		}
	}
	for i := range s.Objects {
		s.Objects[i] = api.Object{ID: id(8, 8), Name: "spoilt"}
	}
	for i := range s.Entries {
		s.Entries[i] = api.Entry{ID: id(8, 8), Name: "spoilt", Obj: id(8, 8)}
	}
}

// ways are lists by which something is chosen of the grove.
func ways() [][]string { return [][]string{nil, {"/"}, {"/d", "/lost+found", "/c"}, {"/none"}} }

// Rule 4: answers share nothing with what was handed in, nor with each other; all stays as it was.
func TestAnswersShareNothing(t *testing.T) {
	for _, way := range ways() {
		x, _ := grove(t)
		s, chosen := x.s, cloned(way)
		was := state.Clone(s)
		first, _ := ask(s, chosen)
		second, _ := ask(s, chosen)
		want := copyOf(first)
		spoil(first)
		if !state.Same(s, was) || !slices.Equal(chosen, way) {
			t.Fatalf("what was handed in became %+v, %q", s, chosen)
		}
		third, _ := ask(s, chosen)
		if !sameAnswers(second, want) || !sameAnswers(third, want) {
			t.Fatal("a change of what was answered shows")
		}
		spoilState(s)
		for i := range chosen {
			chosen[i] = "/spoilt"
		}
		if !sameAnswers(second, want) || !sameAnswers(third, want) {
			t.Fatal("a change of what was handed in shows")
		}
	}
}

// Rule 4: a walk keeps nothing of what was handed in, and nothing of what it yielded.
func TestWalkKeepsNothing(t *testing.T) {
	for _, way := range ways() {
		x, _ := grove(t)
		s, chosen := x.s, cloned(way)
		want := slices.Collect(volume.Walk(state.Clone(s), way))
		walk := volume.Walk(s, chosen)
		at := 0
		for n := range walk {
			isNodes(t, "while all is changed", []api.Node{n}, want[at:at+1])
			at++
			spoilIDs(n.Heads)
			spoilState(s)
			for i := range chosen {
				chosen[i] = "x"
			}
		}
		x, _ = grove(t)
		isNodes(t, "behind changes", slices.Collect(walk), slices.Collect(volume.Walk(x.s, way)))
	}
}

// textsOf are all texts of answers, but for those of a single byte, which may be of a table that all programs share.
func textsOf(a answers) []string {
	l := slices.Clone(a.texts)
	for _, e := range a.events {
		l = append(l, e.Name, e.Data)
	}
	for _, n := range a.nodes {
		l = append(l, n.Path, n.Data)
	}
	for _, names := range a.lists {
		l = append(l, names...)
	}
	return slices.DeleteFunc(l, func(s string) bool { return len(s) < 2 })
}

// textsIn are all texts of a state.
func textsIn(s api.State) []string {
	var l []string
	for _, o := range s.Objects {
		l = append(l, o.Name)
		for _, v := range o.Versions {
			l = append(l, v.Data)
		}
	}
	for _, x := range s.Entries {
		l = append(l, x.Name)
	}
	return l
}

// shares tells whether a text of one list lies where one of another list does.
func shares(a, b []string) bool {
	return slices.ContainsFunc(a, func(s string) bool {
		return slices.ContainsFunc(b, func(other string) bool {
			from, to := uintptr(unsafe.Pointer(unsafe.StringData(s))), uintptr(unsafe.Pointer(unsafe.StringData(other)))
			return from < to+uintptr(len(other)) && to < from+uintptr(len(s))
		})
	})
}

// Rule 4: texts too, which nobody can change, lie in memory of their own.
func TestTextsShareNothing(t *testing.T) {
	x := &site{t: t, rep: 1}
	// Names and bytes of more than one byte, so that they lie somewhere.
	x.mkdir("/dir")
	x.create("/dir/file")
	x.write("/dir/file", "bytes of a file")
	f := x.create("/several")
	x.also(f, "bytes")
	x.also(f, "others")
	grown, _ := grove(t)
	for _, s := range []api.State{x.s, grown.s} {
		for _, way := range ways() {
			chosen := cloned(way)
			first, given := ask(s, chosen)
			second, other := ask(s, chosen)
			given = append(given, other...)
			given = append(append(given, chosen...), textsIn(s)...)
			if shares(textsOf(first), given) || shares(textsOf(first), textsOf(second)) {
				t.Errorf("%q: texts share memory", way)
			}
		}
	}
	for _, at := range []string{"/dir/file", "/several", "/dir", "/"} {
		at = strings.Clone(at)
		n, _ := volume.Stat(x.s, nil, at)
		text, _ := volume.Read(x.s, nil, at)
		versions, _ := volume.Versions(x.s, nil, at)
		names, _ := volume.List(x.s, nil, at)
		got := textsOf(answers{nodes: []api.Node{n}, texts: []string{text}, lists: [][]string{versions, names}})
		for i := range got {
			if shares(got[i:i+1], append(textsIn(x.s), at)) || shares(got[:i], got[i:]) {
				t.Errorf("%s: %q shares memory", at, got[i])
			}
		}
	}
}

// Rule 4: what lies behind the ends of lists is neither read nor written.
func TestNothingBehindTheEnds(t *testing.T) {
	x, _ := grove(t)
	want, _ := ask(x.s, []string{"/d", "/c"})
	s := state.Clone(x.s)
	objects, entries := len(s.Objects), len(s.Entries)
	behind := api.Entry{ID: id(1, 30), Name: "behind", Obj: id(1, 1)}
	s.Objects = append(s.Objects, api.Object{ID: id(1, 31), Name: "behind"})[:objects]
	s.Entries = append(s.Entries, behind)[:entries]
	for i := range s.Objects {
		n := len(s.Objects[i].Versions)
		s.Objects[i].Versions = append(s.Objects[i].Versions, api.Version{ID: id(1, 32), Data: "behind"})[:n]
	}
	chosen := []string{"/d", "/c", "/", "/z"}
	got, _ := ask(s, chosen[:2])
	if !sameAnswers(got, want) {
		t.Errorf("with room behind the ends: %+v, not %+v", got, want)
	}
	if s.Entries[:entries+1][entries] != behind || s.Objects[:objects+1][objects].Name != "behind" || !slices.Equal(chosen, []string{"/d", "/c", "/", "/z"}) {
		t.Error("something behind an end was written")
	}
	for _, o := range s.Objects {
		if n := len(o.Versions); o.Versions[:n+1][n].Data != "behind" {
			t.Error("something behind an end was written")
		}
	}
}

// P2: what is asked in between changes no answer; a list that is nil and one that is empty are the same.
func TestNothingIsKept(t *testing.T) {
	x, _ := grove(t)
	for _, way := range ways() {
		want, _ := ask(x.s, way)
		for _, other := range ways() {
			ask(x.s, other)
			ask(api.State{}, other)
			if got, _ := ask(x.s, way); !sameAnswers(got, want) {
				t.Errorf("%q, behind %q: %+v, not %+v", way, other, got, want)
			}
		}
	}
	none, _ := ask(x.s, nil)
	empty, _ := ask(x.s, []string{})
	if !sameAnswers(none, empty) {
		t.Error("a list that is empty isn't as one that is nil")
	}
}

// number is an event's number by chance, often of something, sometimes of nothing that can be.
func (d *dice) number() api.ID {
	switch d.roll(12) {
	case 0:
		return api.ID{}
	case 1:
		return id([]int{math.MinInt, -1, 0, 9, math.MaxInt}[d.roll(5)], uint32(d.roll(2)*math.MaxUint32))
	}
	return id(1+d.roll(2), uint32(1+d.roll(3)))
}

// oddText is a name, or something that is none.
func (d *dice) oddText() string {
	return d.text("a", "b", "a", "b", "", "/", ".", "..", "a/b", "lost+found", "a~1.1", "\xff", "longer than any name is", strings.Repeat("x", 300))
}

// oddVector is a vector by chance, often a zero one.
func (d *dice) oddVector() api.Vec {
	if d.roll(4) > 0 {
		return api.Vec{}
	}
	return api.Vec{uint32(d.roll(6)), uint32(d.roll(6)), 7: uint32(d.roll(2) * math.MaxUint32)}
}

// odd is a state that no events come to: lists in no order, numbers twice, numbers of nothing, and the root as an object.
func (d *dice) odd() api.State {
	s := api.State{Known: d.oddVector()}
	for range d.roll(8) {
		o := api.Object{ID: d.number(), Dir: d.roll(3) > 0, Last: d.number(), Name: d.oddText(), Seen: d.oddVector()}
		for range d.roll(4) {
			o.Versions = append(o.Versions, api.Version{ID: d.number(), Data: d.oddText(), By: d.oddVector()})
		}
		s.Objects = append(s.Objects, o)
	}
	for range d.roll(12) {
		s.Entries = append(s.Entries, api.Entry{ID: d.number(), Dir: d.number(), Name: d.oddText(), Obj: d.number(), By: d.oddVector()})
	}
	s.Wards[0], s.Retired[1] = d.roll(9)-3, d.roll(2) == 0
	return s
}

// isEnding asks all that can be asked, of whose answers nothing is promised but that they end, that they are the same again, and that beside an error there is nothing.
func isEnding(t *testing.T, d *dice, s api.State) {
	t.Helper()
	was, chosen := state.Clone(s), []string{d.oddText(), "/a", "/a/" + d.oddText()}[:d.roll(4)]
	paths := []string{"/", "/lost+found", "/a", "/b", "/a/b", "/a~1.1", "/lost+found/a~1.1", d.oddText(), "/" + d.oddText()}
	for n := range volume.Walk(s, chosen) {
		paths = append(paths, n.Path)
	}
	for _, at := range paths {
		n, err := volume.Stat(s, chosen, at)
		text, other := volume.Read(s, chosen, at)
		if err != api.OK && !sameNode(n, api.Node{}) || other != api.OK && text != "" {
			t.Fatalf("beside an error: %+v, %q", n, text)
		}
		versions, err := volume.Versions(s, chosen, at)
		names, other := volume.List(s, chosen, at)
		if err != api.OK && len(versions) != 0 || other != api.OK && len(names) != 0 {
			t.Fatalf("beside an error: %q, %q", versions, names)
		}
	}
	for _, verb := range append(verbs(), "") {
		op := api.Op{Verb: verb, Path: d.text(paths...), To: d.text(paths...), N: []int{math.MinInt, -1, 0, 3, 200, math.MaxInt}[d.roll(6)], Data: d.oddText()}
		for _, self := range []int{1, 2, 8, math.MinInt, -1, 0, 9, math.MaxInt} {
			e, err := volume.Do(s, self, chosen, op)
			again, _ := volume.Do(s, self, chosen, op)
			if err != api.OK && !event.Same(e, api.Event{}) || !event.Same(e, again) {
				t.Fatalf("%+v, %d", e, err)
			}
		}
	}
	if !state.Same(s, was) {
		t.Fatalf("what was handed in became\n%+v", s)
	}
}

// P1: states that no events come to, and whatever is asked of them, end without a panic.
func TestOddStates(t *testing.T) {
	for seed := range dice(4000) {
		d := seed * 31
		isEnding(t, &d, d.odd())
	}
}

// soon checks that something ends in little time.
func soon(t *testing.T, what string, do func()) {
	t.Helper()
	begin := time.Now()
	do()
	if took := time.Since(begin); took > 20*time.Second {
		t.Errorf("%s took %s", what, took)
	}
}

// P1: long texts, long lists and large states end soon.
func TestLargeArguments(t *testing.T) {
	const many = 1 << 16
	x, _ := grove(t)
	long := strings.Repeat("/a", 1<<20)
	soon(t, "long texts", func() {
		for _, verb := range verbs() {
			if verb != "seat" && verb != "retire" {
				refuses(t, api.ErrPath, x.s, 1, []string{long}, api.Op{Verb: verb, Path: long, To: long, Data: long})
			}
		}
		refuses(t, api.ErrArg, x.s, 1, nil, api.Op{Verb: long})
		refuses(t, api.ErrLong, x.s, 1, nil, api.Op{Verb: "write", Path: "/z", Data: long})
	})
	soon(t, "a long list", func() {
		list := slices.Repeat([]string{"/none"}, many)
		isNoList(t, api.ErrChosen, x.s, list, "/d")
		isList(t, x.s, append(list, "/d"), "/d", "e", "g")
	})
	soon(t, "a wide state", func() {
		s := api.State{Known: api.Vec{many}}
		for i := range many {
			number := id(1, uint32(i+1))
			s.Objects = append(s.Objects, api.Object{ID: number, Last: number, Name: "n"})
			s.Entries = append(s.Entries, api.Entry{ID: number, Name: "n", Obj: number})
		}
		l, err := volume.List(s, nil, "/")
		if len(l) != many || err != api.OK || l[1] != "n~1.2" {
			t.Errorf("%d names, %d", len(l), err)
		}
		if _, err := volume.Do(s, 1, nil, api.Op{Verb: "rename", Path: "/n~1.60000", To: "/m"}); err != api.OK {
			t.Errorf("%d", err)
		}
	})
}
