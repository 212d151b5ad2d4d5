package event_test

import (
	"math"
	"strings"
	"testing"

	"wardship/api"
	"wardship/event"
)

// The kinds by their numbers, as the chapter gives them.
const (
	file   = 1
	dir    = 2
	write  = 3
	trim   = 4
	fix    = 5
	drop   = 6
	move   = 7
	seat   = 8
	retire = 9
)

// id is an event number.
func id(rep int, seq uint32) api.ID { return api.ID{Rep: rep, Seq: seq} }

// known is what the events of these tests know: they are the fifth ones of replica 2.
func known() api.Vec { return api.Vec{9, 4, 1, 0, 300, 1 << 20, 0, 2} }

// first is n numbers that known contains, in their order.
func first(n int) []api.ID {
	all := []api.ID{id(1, 1), id(2, 1), id(3, 1), id(8, 1), id(1, 2), id(8, 2), id(6, 3), id(2, 4), id(1, 9), id(5, 300), id(6, 1<<20)}
	return all[:n:n]
}

// blank is an event of a kind without any of the fields that kinds have.
func blank(kind int) api.Event { return api.Event{ID: id(2, 5), Dep: known(), Kind: kind} }

// valid is a valid event of a kind, in which each field that may be other than zero is so.
func valid(kind int) api.Event {
	e := blank(kind)
	switch kind {
	case file, dir:
		e.Dir, e.Name = id(8, 2), "a.txt"
	case write:
		e.Obj, e.Base, e.Off, e.Data = id(1, 3), []api.ID{id(5, 300)}, 7, "hi"
	case trim:
		e.Obj, e.Base, e.Off = id(1, 3), []api.ID{id(5, 300)}, 7
	case fix:
		e.Obj, e.Base, e.Data = id(1, 3), first(3), "both"
	case drop:
		e.Obj, e.Gone = id(1, 3), first(2)
	case move:
		e.Obj, e.Gone, e.Dir, e.Name = id(1, 3), first(2), id(6, 1<<20), "b"
	case seat:
		e.Ward = 3
	}
	return e
}

// holds checks that Check and Write both say whether e is valid, and that a valid one is read back.
func holds(t *testing.T, e api.Event, want bool) {
	t.Helper()
	if got := event.Check(e); got != want {
		t.Errorf("Check(%+v) = %v", e, got)
	}
	b, err := event.Write(e)
	if want != (err == api.OK) || !want && (err != api.ErrForm || len(b) != 0) {
		t.Errorf("Write(%+v) = %v, %d", e, b, err)
	}
	if !want {
		return
	}
	if back, err := event.Read(b); err != api.OK || !same(back, e) {
		t.Errorf("Read of the bytes of %+v = %+v, %d", e, back, err)
	}
}

// with checks whether e is valid once it is changed.
func with(t *testing.T, e api.Event, want bool, change func(*api.Event)) {
	t.Helper()
	change(&e)
	holds(t, e, want)
}

// P8.1: an event of each kind, the chapter's example, and kinds that there are not.
func TestCheckOfEachKind(t *testing.T) {
	for kind := 1; kind <= 9; kind++ {
		holds(t, valid(kind), true)
	}
	holds(t, api.Event{ID: id(2, 1), Kind: file, Name: "a"}, true)
	for _, kind := range []int{0, 10, 11, -1, 255, 256 + 1, 1 << 16, math.MaxInt, math.MinInt, math.MinInt + 9} {
		holds(t, blank(kind), false)
		for like := 1; like <= 9; like++ {
			with(t, valid(like), false, func(e *api.Event) { e.Kind = kind })
		}
	}
	holds(t, api.Event{}, false)
}

// P8.1: an event of one kind isn't one of another, but for files and directories, which have the same fields.
func TestCheckOfAnotherKind(t *testing.T) {
	for kind := 1; kind <= 9; kind++ {
		for other := 1; other <= 9; other++ {
			want := kind == other || kind+other == file+dir
			with(t, valid(kind), want, func(e *api.Event) { e.Kind = other })
		}
	}
}

// P8.1: the replica is from 1 to 8.
func TestCheckOfReplicas(t *testing.T) {
	for kind := 1; kind <= 9; kind++ {
		for rep := 1; rep <= 8; rep++ {
			with(t, valid(kind), true, func(e *api.Event) { e.ID = id(rep, 5); e.Dep[rep-1] = 4; e.Obj, e.Dir, e.Gone, e.Base = less(e) })
		}
		for _, rep := range []int{0, 9, 10, -1, 255, 256, 257, math.MaxInt, math.MinInt} {
			with(t, valid(kind), false, func(e *api.Event) { e.ID.Rep = rep })
			with(t, valid(kind), false, func(e *api.Event) { e.ID = id(rep, 1) })
		}
	}
}

// less is e's numbers, as far as it has any, with ones in their place that all vectors of these tests contain.
func less(e *api.Event) (obj, dir api.ID, gone, base []api.ID) {
	if e.Kind >= write && e.Kind <= move {
		obj = id(1, 1)
	}
	if e.Kind == fix {
		base = []api.ID{id(1, 1), id(1, 2)}
	}
	return obj, api.ID{}, nil, base
}

// P8.1: Seq is from 1 to 2^20, and Dep has one less for the event's own replica.
func TestCheckOfSeqs(t *testing.T) {
	const top = 1 << 20
	seqs := []uint32{0, 1, 2, 3, 4, 5, 6, top - 1, top, top + 1, top + 2, math.MaxUint32 - 1, math.MaxUint32}
	for _, rep := range []int{1, 2, 8} {
		for _, seq := range seqs {
			for _, before := range seqs {
				e := api.Event{ID: id(rep, seq), Dep: api.Vec{3: 7}, Kind: retire}
				e.Dep[rep-1] = before
				holds(t, e, seq >= 1 && seq <= top && int64(before) == int64(seq)-1)
			}
		}
	}
}

// P8.1: Dep has neither more nor less than Seq - 1 for its own replica, whatever the kind.
func TestCheckOfOwnDep(t *testing.T) {
	for kind := 1; kind <= 9; kind++ {
		for _, n := range []uint32{0, 3, 5, 6, 1 << 20, math.MaxUint32} {
			with(t, valid(kind), false, func(e *api.Event) { e.Dep[1] = n })
		}
		with(t, valid(kind), false, func(e *api.Event) { e.ID.Seq++ })
		with(t, valid(kind), false, func(e *api.Event) { e.ID.Seq-- })
		with(t, valid(kind), false, func(e *api.Event) { e.ID.Rep++ })
		with(t, valid(kind), true, func(e *api.Event) { e.ID.Seq++; e.Dep[1]++ })
	}
}

// P8.1: no number of Dep is above 2^20, whichever it is; 2^20 itself may be.
func TestCheckOfDepsEnds(t *testing.T) {
	for kind := 1; kind <= 9; kind++ {
		for i := range 8 {
			if i == 1 {
				continue
			}
			with(t, valid(kind), true, func(e *api.Event) { e.Dep[i] = 1 << 20 })
			for _, n := range []uint32{1<<20 + 1, 1 << 21, math.MaxUint32} {
				with(t, valid(kind), false, func(e *api.Event) { e.Dep[i] = n })
			}
		}
	}
}

// outside is numbers that known doesn't contain: just not, with no such replica, with the Seq 0.
func outside() []api.ID {
	return []api.ID{
		{}, id(1, 0), id(2, 0), id(8, 0), id(0, 1), id(9, 1), id(-1, 1), id(256+1, 1), id(math.MinInt, 1), id(math.MaxInt, 1),
		id(1, 10), id(2, 5), id(2, 6), id(3, 2), id(4, 1), id(5, 301), id(6, 1<<20+1), id(7, 1), id(8, 3), id(3, math.MaxUint32),
	}
}

// P8.1: the object of the kinds that have one is contained; the zero number isn't.
func TestCheckOfObjects(t *testing.T) {
	for kind := write; kind <= move; kind++ {
		for _, in := range first(11) {
			with(t, valid(kind), true, func(e *api.Event) { e.Obj = in })
		}
		for _, out := range outside() {
			with(t, valid(kind), false, func(e *api.Event) { e.Obj = out })
		}
	}
}

// P8.1: the directory of the kinds that have one is zero or contained.
func TestCheckOfDirs(t *testing.T) {
	for _, kind := range []int{file, dir, move} {
		for _, in := range append(first(11), api.ID{}) {
			with(t, valid(kind), true, func(e *api.Event) { e.Dir = in })
		}
		for _, out := range outside() {
			with(t, valid(kind), out == api.ID{}, func(e *api.Event) { e.Dir = out })
		}
	}
}

// P8.1: the name of the kinds that have one is a name.
func TestCheckOfNames(t *testing.T) {
	for _, kind := range []int{file, dir, move} {
		for _, s := range []string{"a", "abcdefghijkl", "...", ".a", "Z-_9", "", ".", "..", "abcdefghijklm", "a/b", "a~1.1", "é", "\xff", "lost+found"} {
			with(t, valid(kind), expectName(s), func(e *api.Event) { e.Name = s })
		}
	}
}

// P8.1: lists of each size; a write and a cut have one base at most, a fix two to eight, a drop and a move eight entries at most.
func TestCheckOfListSizes(t *testing.T) {
	for n := range 12 {
		l := first(min(n, 11))
		with(t, valid(write), n <= 1, func(e *api.Event) { e.Base = l })
		with(t, valid(trim), n <= 1, func(e *api.Event) { e.Base = l })
		with(t, valid(fix), n >= 2 && n <= 8, func(e *api.Event) { e.Base = l })
		with(t, valid(drop), n <= 8, func(e *api.Event) { e.Gone = l })
		with(t, valid(move), n <= 8, func(e *api.Event) { e.Gone = l })
	}
	for kind := 1; kind <= 9; kind++ {
		with(t, valid(kind), kind != fix, func(e *api.Event) { e.Gone, e.Base = []api.ID{}, []api.ID{} })
		with(t, valid(kind), kind != fix, func(e *api.Event) { e.Gone, e.Base = nil, nil })
	}
}

// lists is both lists of the kinds that have one of several numbers.
func lists(see func(kind int, set func(*api.Event, []api.ID))) {
	see(fix, func(e *api.Event, l []api.ID) { e.Base = l })
	see(drop, func(e *api.Event, l []api.ID) { e.Gone = l })
	see(move, func(e *api.Event, l []api.ID) { e.Gone = l })
}

// P8.1: the numbers in a list are strictly increasing, by Seq and then by Rep.
func TestCheckOfListOrder(t *testing.T) {
	lists(func(kind int, set func(*api.Event, []api.ID)) {
		for _, c := range []struct {
			l    []api.ID
			want bool
		}{
			{[]api.ID{id(1, 1), id(2, 1)}, true},
			{[]api.ID{id(2, 1), id(1, 1)}, false},
			{[]api.ID{id(2, 1), id(1, 2)}, true},
			{[]api.ID{id(1, 2), id(2, 1)}, false},
			{[]api.ID{id(1, 1), id(1, 1)}, false},
			{[]api.ID{id(8, 1), id(1, 9)}, true},
			{[]api.ID{id(1, 9), id(8, 1)}, false},
			{[]api.ID{id(1, 1), id(2, 1), id(2, 1)}, false},
			{[]api.ID{id(1, 1), id(1, 3), id(1, 2)}, false},
			{[]api.ID{id(1, 2), id(1, 1), id(1, 3)}, false},
			{[]api.ID{id(1, 1), id(6, 256), id(6, 257)}, true},
			{[]api.ID{id(1, 1), id(6, 257), id(6, 256)}, false},
		} {
			with(t, valid(kind), c.want, func(e *api.Event) { set(e, c.l) })
		}
		for i := range 7 {
			l := first(8)
			swapped := append([]api.ID{}, l...)
			swapped[i], swapped[i+1] = l[i+1], l[i]
			twice := append([]api.ID{}, l...)
			twice[i] = l[i+1]
			with(t, valid(kind), false, func(e *api.Event) { set(e, swapped) })
			with(t, valid(kind), false, func(e *api.Event) { set(e, twice) })
		}
	})
}

// P8.1: each number in a list is contained, the first, the last and those between; in order it may well be otherwise.
func TestCheckOfListNumbers(t *testing.T) {
	lists(func(kind int, set func(*api.Event, []api.ID)) {
		for _, c := range []struct {
			l    []api.ID
			want bool
		}{
			{[]api.ID{id(1, 9), id(5, 300)}, true},
			{[]api.ID{id(1, 9), id(5, 301)}, false},
			{[]api.ID{id(3, 2), id(5, 300)}, false},
			{[]api.ID{id(4, 1), id(5, 1)}, false},
			{[]api.ID{id(1, 1), id(7, 1), id(1, 9)}, false},
			{[]api.ID{id(1, 1), id(2, 4), id(2, 5)}, false},
			{[]api.ID{id(6, 1<<20-1), id(6, 1<<20)}, true},
			{[]api.ID{id(6, 1<<20), id(6, 1<<20+1)}, false},
			{[]api.ID{{}, id(1, 1)}, false},
			{[]api.ID{id(1, 0), id(1, 1)}, false},
			{[]api.ID{id(0, 1), id(1, 1)}, false},
			{[]api.ID{id(-1, 1), id(1, 1)}, false},
			{[]api.ID{id(1, 1), id(9, 1)}, false},
			{[]api.ID{id(1, 1), id(257, 1)}, false},
		} {
			with(t, valid(kind), c.want, func(e *api.Event) { set(e, c.l) })
		}
	})
	for _, kind := range []int{write, trim} {
		for _, in := range first(11) {
			with(t, valid(kind), true, func(e *api.Event) { e.Base = []api.ID{in} })
		}
		for _, out := range outside() {
			with(t, valid(kind), false, func(e *api.Event) { e.Base = []api.ID{out} })
		}
	}
	for _, kind := range []int{drop, move} {
		for _, out := range outside() {
			with(t, valid(kind), false, func(e *api.Event) { e.Gone = []api.ID{out} })
		}
	}
}

// P8.1: Off and the bytes of a write come to 200 at most, and there is one byte at least.
func TestCheckOfRoom(t *testing.T) {
	offs := []int{0, 1, 2, 100, 198, 199, 200, 201, 202, 255, 256, -1, -2, -200, math.MaxInt, math.MaxInt - 1, math.MaxInt - 199, math.MinInt, math.MinInt + 1}
	sizes := []int{0, 1, 2, 100, 101, 199, 200, 201, 202, 300}
	for _, off := range offs {
		inside := off >= 0 && off <= 200
		with(t, valid(trim), inside, func(e *api.Event) { e.Off = off })
		for _, size := range sizes {
			data := strings.Repeat("\xff", size)
			with(t, valid(write), inside && size >= 1 && off+size <= 200, func(e *api.Event) { e.Off, e.Data = off, data })
		}
	}
	for _, size := range sizes {
		with(t, valid(fix), size <= 200, func(e *api.Event) { e.Data = strings.Repeat("\x00", size) })
	}
	with(t, valid(write), true, func(e *api.Event) { e.Data = "\x00\n\xff\xc3é" })
	with(t, valid(fix), true, func(e *api.Event) { e.Data = "\x00\n\xff\xc3é" })
	with(t, valid(write), false, func(e *api.Event) { e.Data = strings.Repeat("é", 101); e.Off = 0 })
}

// P8.1: a ward is from 1 to 4.
func TestCheckOfWards(t *testing.T) {
	for _, ward := range []int{0, 1, 2, 3, 4, 5, 6, -1, 256 + 1, math.MaxInt, math.MinInt} {
		with(t, valid(seat), ward >= 1 && ward <= 4, func(e *api.Event) { e.Ward = ward })
	}
}

// P8.1: a field that an event's kind doesn't have is zero, alone, and with all others that it has.
func TestCheckOfFieldsThatAreNotThere(t *testing.T) {
	had := map[int]string{
		file: "dir name", dir: "dir name", write: "obj base off data", trim: "obj base off",
		fix: "obj base data", drop: "obj gone", move: "obj gone dir name", seat: "ward", retire: "",
	}
	changes := map[string][]func(*api.Event){
		"obj":  {func(e *api.Event) { e.Obj = id(1, 1) }, func(e *api.Event) { e.Obj = id(1, 0) }, func(e *api.Event) { e.Obj = id(0, 1) }, func(e *api.Event) { e.Obj = id(7, 7) }},
		"dir":  {func(e *api.Event) { e.Dir = id(1, 1) }, func(e *api.Event) { e.Dir = id(1, 0) }, func(e *api.Event) { e.Dir = id(0, 1) }, func(e *api.Event) { e.Dir = id(7, 7) }},
		"name": {func(e *api.Event) { e.Name = "a" }, func(e *api.Event) { e.Name = "." }, func(e *api.Event) { e.Name = "\x00" }},
		"gone": {func(e *api.Event) { e.Gone = first(1) }, func(e *api.Event) { e.Gone = []api.ID{{}} }, func(e *api.Event) { e.Gone = first(2) }},
		"base": {func(e *api.Event) { e.Base = first(1) }, func(e *api.Event) { e.Base = []api.ID{{}} }, func(e *api.Event) { e.Base = first(2) }},
		"off":  {func(e *api.Event) { e.Off = 1 }, func(e *api.Event) { e.Off = 200 }, func(e *api.Event) { e.Off = -1 }},
		"data": {func(e *api.Event) { e.Data = "a" }, func(e *api.Event) { e.Data = "\x00" }},
		"ward": {func(e *api.Event) { e.Ward = 1 }, func(e *api.Event) { e.Ward = 4 }, func(e *api.Event) { e.Ward = -1 }},
	}
	tried := 0
	for kind, fields := range had {
		for field, l := range changes {
			if strings.Contains(fields, field) {
				continue
			}
			for _, change := range l {
				tried++
				with(t, valid(kind), false, change)
			}
		}
	}
	if tried < 150 {
		t.Errorf("only %d changes were tried", tried)
	}
}
