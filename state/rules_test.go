package state_test

import (
	"bytes"
	"math"
	"slices"
	"strings"
	"testing"
	"unsafe"

	"wardship/api"
	"wardship/event"
	"wardship/state"
)

// call is a call that makes a state of a state.
type call struct {
	name string
	call func(s api.State) api.State
}

// calls are all calls of the package that do so, with an event of each kind; none of them is refused on the ground.
func calls() []call {
	l := []call{
		{"Clone", state.Clone},
		{"Object", func(s api.State) api.State {
			o, _ := state.Object(s, file)
			return api.State{Objects: []api.Object{o}}
		}},
		{"Write and Read", func(s api.State) api.State {
			read, _ := state.Read(state.Write(s))
			return read
		}},
	}
	for _, k := range kinds() {
		l = append(l, call{"Apply of a " + k.name, func(s api.State) api.State {
			next, _ := state.Apply(s, on(3, api.Vec{7}, k.e))
			return next
		}})
	}
	return l
}

// roomy is a state whose lists have room behind their ends, filled with what nobody may read or write.
func roomy(s api.State) api.State {
	s = copyOf(s)
	for i := range s.Objects {
		o := &s.Objects[i]
		n := len(o.Versions)
		o.Versions = append(o.Versions, api.Version{ID: id(1, 1), Data: "behind"}, api.Version{ID: id(8, 9), Data: "behind"})[:n]
	}
	objects, entries := len(s.Objects), len(s.Entries)
	s.Objects = append(s.Objects, api.Object{ID: id(3, 1), Name: "behind"}, api.Object{ID: id(8, 9), Dir: true, Name: "behind"})[:objects]
	s.Entries = append(s.Entries, api.Entry{ID: id(3, 1), Obj: file}, api.Entry{ID: id(8, 9), Obj: file})[:entries]
	return s
}

// whole is a state with all that lies behind the ends of its lists.
func whole(s api.State) api.State {
	s = copyOf(api.State{Known: s.Known, Objects: s.Objects[:cap(s.Objects)], Entries: s.Entries[:cap(s.Entries)]})
	for i, o := range s.Objects {
		s.Objects[i].Versions = append([]api.Version(nil), o.Versions[:cap(o.Versions)]...)
	}
	return s
}

// Rule 4: what is answered shares nothing with what was handed in, nor with another answer; both stay as they were.
func TestStatesShareNothing(t *testing.T) {
	for _, c := range calls() {
		s := ground(t)
		first, second := c.call(s), c.call(s)
		want := copyOf(first)
		if len(want.Objects) == 0 {
			t.Fatalf("%s answers nothing", c.name)
		}
		isState(t, c.name+": what was handed in", s, ground(t))
		isState(t, c.name+" again", second, want)
		spoil(&first)
		isState(t, c.name+": what was handed in, behind a change of the answer", s, ground(t))
		isState(t, c.name+": another answer, behind a change of the first", second, want)
		isState(t, c.name+" once more", c.call(s), want)
		spoil(&s)
		isState(t, c.name+", behind a change of what was handed in", second, want)
	}
}

// Rule 4: what lies behind the end of a list is neither read nor written; Apply has room there, and doesn't take it.
func TestNothingBehindTheEnd(t *testing.T) {
	for _, c := range calls() {
		s := roomy(ground(t))
		was := whole(s)
		isState(t, c.name, c.call(s), c.call(ground(t)))
		isState(t, c.name+": all that lies behind", whole(s), was)
	}
	s := roomy(ground(t))
	isObject(t, s, id(3, 1), nil)
	isObject(t, s, id(8, 9), nil)
	isSame(t, s, ground(t), true)
	if !bytes.Equal(state.Write(s), state.Write(ground(t))) {
		t.Error("what lies behind the ends is in the bytes")
	}
	b := append(state.Write(s), 1, 2, 3)
	got, err := state.Read(b[:len(b)-3])
	isState(t, "bytes with others behind their end", got, ground(t))
	if err != api.OK || !bytes.Equal(b[len(b)-3:], []byte{1, 2, 3}) {
		t.Errorf("%d, %v", err, b[len(b)-3:])
	}
}

// Rule 4: an event's lists are neither changed nor kept, and what lies behind their ends isn't read.
func TestEventsAreNotKept(t *testing.T) {
	for _, k := range kinds() {
		e := on(3, api.Vec{7}, k.e)
		gone, base := append(slices.Clone(e.Gone), note), append(slices.Clone(e.Base), seat)
		e.Gone, e.Base = gone[:len(gone)-1], base[:len(base)-1]
		was := e
		was.Gone, was.Base = slices.Clone(e.Gone), slices.Clone(e.Base)
		got := applied(t, ground(t), e)
		want := applied(t, ground(t), on(3, api.Vec{7}, k.e))
		isState(t, k.name, got, want)
		if !event.Same(e, was) || gone[len(gone)-1] != note || base[len(base)-1] != seat {
			t.Errorf("%s: the event became %+v", k.name, e)
		}
		for i := range gone {
			gone[i] = id(7, 7)
		}
		for i := range base {
			base[i] = id(7, 7)
		}
		isState(t, k.name+", behind a change of the event", got, want)
	}
}

// Rule 4: bytes are of their own, each time, and a state that is read keeps nothing of its own.
func TestBytesShareNothing(t *testing.T) {
	s := told()
	first, second := state.Write(s), state.Write(s)
	want := slices.Clone(first)
	got, _ := state.Read(first)
	other, _ := state.Read(first)
	first = first[:cap(first)]
	for i := range first {
		first[i] ^= 255
	}
	isState(t, "what was read, behind a change of the bytes", got, told())
	if !bytes.Equal(second, want) || !bytes.Equal(state.Write(s), want) {
		t.Error("bytes share memory")
	}
	spoil(&got)
	isState(t, "what was read, behind a change of what was read before", other, told())
	isState(t, "what was written", s, told())
}

// sharesMemory tells whether two texts lie in one memory.
func sharesMemory(a, b string) bool {
	if a == "" || b == "" {
		return false
	}
	from, other := uintptr(unsafe.Pointer(unsafe.StringData(a))), uintptr(unsafe.Pointer(unsafe.StringData(b)))
	return from < other+uintptr(len(b)) && other < from+uintptr(len(a))
}

// texts are all names and bytes of a state.
func texts(s api.State) []string {
	var l []string
	for _, o := range s.Objects {
		l = append(l, o.Name)
		for _, v := range o.Versions {
			l = append(l, v.Data)
		}
	}
	for _, x := range s.Entries {
		l = append(l, x.Name)
	}
	return l
}

// anySharesMemory tells whether a text of one list lies where one of another list does.
func anySharesMemory(a, b []string) bool {
	return slices.ContainsFunc(a, func(s string) bool {
		return slices.ContainsFunc(b, func(other string) bool { return sharesMemory(s, other) })
	})
}

// Rule 4: names and bytes too, which nobody can change, lie in memory of their own.
func TestTextsShareNothing(t *testing.T) {
	s := ground(t)
	for i := range s.Objects {
		s.Objects[i].Name = strings.Clone(s.Objects[i].Name)
	}
	for _, c := range calls() {
		first, second := c.call(s), c.call(s)
		if anySharesMemory(texts(first), texts(s)) || anySharesMemory(texts(first), texts(second)) {
			t.Errorf("%s: texts share memory", c.name)
		}
	}
	for _, k := range kinds() {
		e := on(1, api.Vec{7}, k.e)
		if e.Name != "" {
			e.Name = strings.Clone("longer")
		}
		if e.Data != "" {
			e.Data = strings.Clone("longer")
		}
		if anySharesMemory(texts(applied(t, s, e)), []string{e.Name, e.Data}) {
			t.Errorf("Apply of a %s: texts share memory with the event", k.name)
		}
	}
}

// P2: what is asked in between changes no answer.
func TestNothingIsKept(t *testing.T) {
	for _, c := range calls() {
		want := c.call(ground(t))
		for _, other := range calls() {
			other.call(told())
			other.call(api.State{})
			other.call(ground(t))
			state.Read([]byte{1, 2, 3})
			isState(t, c.name+" behind "+other.name, c.call(ground(t)), want)
		}
	}
}

// odd is a state that no events come to: lists in no order, numbers twice, numbers of nothing.
func (d *dice) odd() api.State {
	number := func() api.ID {
		if d.roll(6) == 0 {
			return id([]int{math.MinInt, -1, 0, 9, math.MaxInt}[d.roll(5)], uint32(d.roll(2)*math.MaxUint32))
		}
		return id(1+d.roll(3), uint32(d.roll(5)))
	}
	vector := func() api.Vec {
		return api.Vec{uint32(d.roll(6)), uint32(d.roll(6)), uint32(d.roll(3)), 7: uint32(d.roll(2) * math.MaxUint32)}
	}
	s := api.State{Known: vector(), Wards: [8]int{d.roll(9) - 4}, Retired: [8]bool{d.roll(9) == 0, d.roll(9) == 0}}
	for range d.roll(7) {
		o := api.Object{ID: number(), Dir: d.roll(2) == 0, Last: number(), Name: d.bytes(20), Seen: vector()}
		for range d.roll(4) {
			o.Versions = append(o.Versions, api.Version{ID: number(), Data: d.bytes(220), By: vector()})
		}
		s.Objects = append(s.Objects, o)
	}
	for range d.roll(7) {
		s.Entries = append(s.Entries, api.Entry{ID: number(), Dir: number(), Name: d.bytes(20), Obj: number(), By: vector()})
	}
	return s
}

// P1: states that no events come to, of which nothing else is promised, end without a panic, and stay as they were.
func TestOddStates(t *testing.T) {
	found := 0
	for seed := range dice(20000) {
		d := seed * 13
		s := d.odd()
		was := copyOf(s)
		e := d.event(api.State{Known: api.Vec{4, 4, 2}, Objects: s.Objects}, 1+d.roll(4))
		if d.roll(2) == 0 {
			e.Dep = s.Known
			e.ID.Seq = e.Dep[e.ID.Rep-1] + 1
		}
		next, err := state.Apply(s, e)
		if err != api.OK {
			isState(t, "beside an error", next, api.State{})
		} else {
			found++
		}
		for _, number := range known(api.Vec{2, 2}) {
			state.Object(s, number)
		}
		isState(t, "a clone", state.Clone(s), s)
		isSame(t, s, was, true)
		b := state.Write(s)
		isOneForm(t, b)
		if got, err := state.Read(b); err == api.OK != ordered(s) || err == api.OK && !same(got, s) {
			t.Errorf("%+v is read as %+v, %d", s, got, err)
		}
		isState(t, "what was handed in", s, was)
	}
	if found < 200 {
		t.Errorf("%d events were applied", found)
	}
}

// P1, P2: bytes of all kinds end without a panic, and say the same again.
func TestNoise(t *testing.T) {
	for seed := range dice(60000) {
		d := seed
		b := make([]byte, d.roll(120))
		for i := range b {
			b[i] = []byte{0, 0, 0, 1, 1, 2, 3, 255}[d.roll(8)]
		}
		isOneForm(t, b)
		isOneForm(t, append(state.Write(api.State{})[:d.roll(20)], b...))
	}
}

// P1: a number of things that is far greater than the things are ends at once.
func TestFarCounts(t *testing.T) {
	zero := state.Write(api.State{})
	for _, n := range []int{1, 255, 256, 1 << 20, 1 << 31, math.MaxUint32, math.MaxUint32 + 1, math.MaxInt, -1} {
		digits := []byte{byte(n >> 56), byte(n >> 48), byte(n >> 40), byte(n >> 32), byte(n >> 24), byte(n >> 16), byte(n >> 8), byte(n)}
		field := bytes.TrimLeft(digits, "\x00")
		for at := range zero {
			isOneForm(t, slices.Concat(zero[:at], []byte{byte(len(field))}, field, zero[at+1:]))
		}
	}
}

// P1: long states end soon; texts that no field holds end too.
func TestLongStates(t *testing.T) {
	const n = 100000
	s := api.State{Known: api.Vec{1: 2 * n}}
	for seq := uint32(2); seq <= 2*n; seq += 2 {
		s.Objects = append(s.Objects, api.Object{ID: id(2, seq), Name: "a", Last: id(2, seq)})
		s.Entries = append(s.Entries, api.Entry{ID: id(2, seq), Name: "a", Obj: id(2, seq)})
	}
	isReadBack(t, "a long state", s)
	for _, seq := range []uint32{2, n, 2 * n} {
		isObject(t, s, id(2, seq), objectOf(s, id(2, seq)))
		isObject(t, s, id(2, seq-1), nil)
	}
	got := applied(t, s, on(1, s.Known, api.Event{Kind: api.KindDrop, Obj: id(2, n), Gone: ids(id(2, 2), id(2, n), id(2, n+2))}))
	if got.Entries[n/2-1].By != (api.Vec{1}) || got.Entries[0].By != (api.Vec{}) || got.Entries[n/2].By != (api.Vec{}) {
		t.Error("other entries went")
	}
	long := strings.Repeat("x", 1<<20)
	for _, change := range []func(*api.State){
		func(s *api.State) { s.Objects[1].Name = long },
		func(s *api.State) { s.Entries[1].Name = long },
		func(s *api.State) { s.Objects[2].Versions[1].Data = long },
	} {
		s := told()
		change(&s)
		isForm(t, "a text that no field holds", state.Write(s))
		isState(t, "a clone with a long text", state.Clone(s), s)
	}
}
