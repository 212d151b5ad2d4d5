package event_test

import (
	"bytes"
	"math"
	"slices"
	"testing"

	"wardship/api"
	"wardship/event"
)

// noise is n bytes that a plain rule makes of a seed; small ones come often, for the sake of the lengths.
func noise(seed uint32, n int) []byte {
	b := make([]byte, n)
	for i := range b {
		seed = seed*1664525 + 1013904223
		x := byte(seed >> 16)
		switch seed >> 28 {
		case 0:
			b[i] = x
		case 1:
			b[i] = 255
		default:
			b[i] = x % 4
		}
	}
	return b
}

// P1, P2: no call panics, whatever bytes it is given, and what it says hangs on its arguments alone, which stay what they were.
func TestNoise(t *testing.T) {
	for seed := range uint32(40000) {
		b := noise(seed, int(seed%61))
		before := slices.Clone(b)
		most := int(seed%13) - 1
		want, wantErr := expectIDs(b, most)
		readsIDs(t, b, most, want, wantErr)
		asExpected(t, b)
		readsIDs(t, b, most, want, wantErr)
		isName(t, string(b), expectName(string(b)))
		if !bytes.Equal(b, before) {
			t.Fatalf("%v became %v", before, b)
		}
	}
}

// P1, P2: fields of noise behind right lengths.
func TestNoiseInFields(t *testing.T) {
	for seed := range uint32(40000) {
		fields := parts(t, valid(int(seed%9)+1))
		for i := range int(seed%3) + 1 {
			at := int(seed/9+uint32(i)*5) % 12
			fields[at] = noise(seed*3+uint32(i), int(seed>>4%8))
		}
		asExpected(t, pack(fields...))
	}
}

// P1: no call panics for numbers of any kind; WriteIDs too ends for replicas that no byte can be, of which nothing more is promised.
func TestFarNumbers(t *testing.T) {
	far := []int{0, 1, 8, 9, 255, 256, 1 << 16, -1, -256, math.MaxInt, math.MinInt}
	for _, rep := range far {
		for _, seq := range []uint32{0, 1, 1 << 20, math.MaxUint32} {
			x := id(rep, seq)
			if !bytes.Equal(event.WriteIDs([]api.ID{x}), event.WriteIDs([]api.ID{x})) {
				t.Errorf("WriteIDs of %v differs", x)
			}
			for _, n := range far {
				for kind := -1; kind <= 11; kind++ {
					e := api.Event{ID: x, Dep: api.Vec{seq, seq, seq}, Kind: kind, Obj: x, Dir: x, Gone: []api.ID{x, x}, Base: []api.ID{x}, Off: n, Ward: n}
					if event.Check(e) != expectCheck(e) || !event.Same(e, e) {
						t.Errorf("%+v", e)
					}
				}
			}
		}
	}
}

// P1: long lists end at once, also in an event.
func TestLongLists(t *testing.T) {
	l := make([]api.ID, 100000)
	for i := range l {
		l[i] = id(6, uint32(i+1))
	}
	with(t, valid(drop), false, func(e *api.Event) { e.Gone = l })
	with(t, valid(fix), false, func(e *api.Event) { e.Base = l })
	with(t, valid(write), false, func(e *api.Event) { e.Data = string(make([]byte, 1<<20)) })
	with(t, valid(file), false, func(e *api.Event) { e.Name = string(make([]byte, 1<<20)) })
	b := event.WriteIDs(l)
	readsIDs(t, b, len(l), l, api.OK)
	readsIDs(t, b, 8, nil, api.ErrLong)
}

// spoil changes all that a slice can reach.
func spoil(b []byte) {
	b = b[:cap(b)]
	for i := range b {
		b[i] ^= 255
	}
}

// spoilIDs changes all numbers that a slice can reach.
func spoilIDs(l []api.ID) {
	l = l[:cap(l)]
	for i := range l {
		l[i] = id(-7, l[i].Seq+77)
	}
}

// P2, rule 4: what is answered shares nothing with what was handed in, nor with another answer, and this stays as it was.
func TestBytesShareNothing(t *testing.T) {
	for kind := 1; kind <= 9; kind++ {
		e := valid(kind)
		first, _ := event.Write(e)
		second, _ := event.Write(e)
		want := slices.Clone(second)
		if !same(e, valid(kind)) {
			t.Fatalf("%+v became %+v", valid(kind), e)
		}
		spoil(first)
		spoilIDs(e.Gone)
		spoilIDs(e.Base)
		third, _ := event.Write(valid(kind))
		if !bytes.Equal(second, want) || !bytes.Equal(third, want) {
			t.Errorf("the bytes of the kind %d share memory", kind)
		}
	}
}

// P2, rule 4: an event that is read shares nothing with its bytes, nor with one that is read again, nor do its two lists.
func TestEventsShareNothing(t *testing.T) {
	for kind := 1; kind <= 9; kind++ {
		b, _ := event.Write(valid(kind))
		before := slices.Clone(b)
		first, _ := event.Read(b)
		second, _ := event.Read(b)
		if !bytes.Equal(b, before) {
			t.Fatalf("%v became %v", before, b)
		}
		spoil(b)
		if !same(first, valid(kind)) || !same(second, valid(kind)) {
			t.Errorf("a change of the bytes shows in %+v or %+v", first, second)
		}
		spoilIDs(first.Gone)
		if !slices.Equal(first.Base, valid(kind).Base) {
			t.Errorf("Gone and Base of the kind %d share memory", kind)
		}
		spoilIDs(first.Base)
		if !same(second, valid(kind)) {
			t.Errorf("a change of an event shows in %+v", second)
		}
		reads(t, before, valid(kind), api.OK)
	}
}

// P2, rule 4: numbers that are read, and bytes that are written, share nothing with anything.
func TestIDsShareNothing(t *testing.T) {
	for _, c := range idCases() {
		l, b := slices.Clone(c.l), event.WriteIDs(c.l)
		first, _ := event.ReadIDs(b, 8)
		second, _ := event.ReadIDs(b, 8)
		other := event.WriteIDs(l)
		if !slices.Equal(l, c.l) || !bytes.Equal(b, c.b) {
			t.Fatalf("%v, %v became %v, %v", c.l, c.b, l, b)
		}
		spoilIDs(first)
		spoilIDs(l)
		spoil(b)
		if !slices.Equal(second, c.l) || !bytes.Equal(other, c.b) {
			t.Errorf("a change shows in %v or in %v", second, other)
		}
	}
}

// Rule 4: what lies behind the end of a slice is neither read nor written, though it would complete it, or spoil it.
func TestNothingBehindTheEnd(t *testing.T) {
	all, _ := event.Write(valid(move))
	before := slices.Clone(all)
	for n := range all {
		refused(t, all[:n], api.ErrCut)
	}
	longer := append(slices.Clone(all), 1, 2, 3)
	reads(t, longer[:len(all)], valid(move), api.OK)
	if !bytes.Equal(all, before) || !bytes.Equal(longer[len(all):], []byte{1, 2, 3}) {
		t.Errorf("%v became %v, %v", before, all, longer)
	}
	ids := event.WriteIDs(first(3))
	for n := range ids {
		want, err := expectIDs(slices.Clone(ids[:n]), 8)
		readsIDs(t, ids[:n], 8, want, err)
	}
	l := append(first(2), id(1, 1), id(9, 9))
	for kind, set := range map[int]func(*api.Event){drop: func(e *api.Event) { e.Gone = l[:2] }, fix: func(e *api.Event) { e.Base = l[:2] }} {
		e := valid(kind)
		set(&e)
		holds(t, e, true)
		if !event.Same(e, e) || !bytes.Equal(event.WriteIDs(l[:2]), []byte{2, 1, 1, 2, 2, 1}) {
			t.Errorf("what is behind the end of %v was read", l[:2])
		}
	}
	if l[2] != id(1, 1) || l[3] != id(9, 9) {
		t.Errorf("what is behind the end became %v", l[2:])
	}
}

// P2: what is asked in between changes no answer.
func TestNothingIsKept(t *testing.T) {
	var forms [][]byte
	for kind := 1; kind <= 9; kind++ {
		b, _ := event.Write(valid(kind))
		forms = append(forms, b)
		refused(t, b[:len(b)-1], api.ErrCut)
		refused(t, append(slices.Clone(b), 0), api.ErrLong)
	}
	for kind := 9; kind >= 1; kind-- {
		reads(t, forms[kind-1], valid(kind), api.OK)
		if b, _ := event.Write(valid(kind)); !bytes.Equal(b, forms[kind-1]) {
			t.Errorf("the kind %d has other bytes now", kind)
		}
	}
}
