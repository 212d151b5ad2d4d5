package event_test

import (
	"bytes"
	"math"
	"slices"
	"strings"
	"testing"

	"wardship/api"
	"wardship/event"
)

// readsIDs checks what ReadIDs says.
func readsIDs(t *testing.T, b []byte, most int, want []api.ID, wantErr api.Errno) {
	t.Helper()
	got, err := event.ReadIDs(b, most)
	if !slices.Equal(got, want) || err != wantErr {
		t.Errorf("ReadIDs(%v, %d) = %v, %d, want %v, %d", b, most, got, err, want, wantErr)
	}
}

// idCase is numbers and their bytes.
type idCase struct {
	l []api.ID
	b []byte
}

// idCases is lists whose bytes are written out.
func idCases() []idCase {
	return []idCase{
		{nil, nil},
		{[]api.ID{}, nil},
		{[]api.ID{{}}, []byte{0}},
		{[]api.ID{{}, {}, {}}, []byte{0, 0, 0}},
		{[]api.ID{id(1, 1)}, []byte{2, 1, 1}},
		{[]api.ID{id(1, 1), id(2, 3)}, []byte{2, 1, 1, 2, 2, 3}},
		{[]api.ID{id(1, 1), {}, id(2, 3)}, []byte{2, 1, 1, 0, 2, 2, 3}},
		{[]api.ID{{}, id(8, 300)}, []byte{0, 3, 8, 1, 44}},
		{[]api.ID{id(8, 300), {}}, []byte{3, 8, 1, 44, 0}},
		// a replica without an event, and an event without a replica, aren't the zero number
		{[]api.ID{id(5, 0)}, []byte{1, 5}},
		{[]api.ID{id(1, 0), id(255, 0)}, []byte{1, 1, 1, 255}},
		{[]api.ID{id(0, 1)}, []byte{2, 0, 1}},
		{[]api.ID{id(0, 1<<20), {}}, []byte{4, 0, 16, 0, 0, 0}},
		// any order, and the same again
		{[]api.ID{id(2, 2), id(1, 1), id(1, 1)}, []byte{2, 2, 2, 2, 1, 1, 2, 1, 1}},
		{[]api.ID{id(255, 1), id(9, 1), id(254, 255)}, []byte{2, 255, 1, 2, 9, 1, 2, 254, 255}},
		{[]api.ID{id(255, 256), id(128, 65535), id(127, 65536)}, []byte{3, 255, 1, 0, 3, 128, 255, 255, 4, 127, 1, 0, 0}},
		{[]api.ID{id(255, 1<<20), id(1, 1<<20-1)}, []byte{4, 255, 16, 0, 0, 4, 1, 15, 255, 255}},
	}
}

// P8.2: lists whose bytes are written out, both ways, with as many fields as there may be just so, or more.
func TestKnownIDs(t *testing.T) {
	for _, c := range idCases() {
		if got := event.WriteIDs(c.l); !bytes.Equal(got, c.b) {
			t.Errorf("WriteIDs(%v) = %v, want %v", c.l, got, c.b)
		}
		n := len(c.l)
		for _, most := range []int{n, n + 1, n + 7, math.MaxInt} {
			readsIDs(t, c.b, most, c.l, api.OK)
		}
		for _, most := range []int{n - 1, 0, -1, math.MinInt} {
			if n > 0 && most < n {
				readsIDs(t, c.b, most, nil, api.ErrLong)
			}
		}
	}
	for _, most := range []int{-1, 0, 1, 8, math.MinInt} {
		readsIDs(t, nil, most, nil, api.OK)
		readsIDs(t, []byte{}, most, nil, api.OK)
	}
}

// P8.2: WriteIDs writes each Seq, also one above 2^20, which ReadIDs refuses.
func TestSeqsOfIDs(t *testing.T) {
	for _, c := range []struct {
		seq uint32
		b   []byte
	}{
		{1, []byte{2, 3, 1}},
		{255, []byte{2, 3, 255}},
		{256, []byte{3, 3, 1, 0}},
		{1<<20 - 1, []byte{4, 3, 15, 255, 255}},
		{1 << 20, []byte{4, 3, 16, 0, 0}},
		{1<<20 + 1, []byte{4, 3, 16, 0, 1}},
		{1 << 24, []byte{5, 3, 1, 0, 0, 0}},
		{math.MaxUint32, []byte{5, 3, 255, 255, 255, 255}},
	} {
		l := []api.ID{id(3, c.seq)}
		if got := event.WriteIDs(l); !bytes.Equal(got, c.b) {
			t.Errorf("WriteIDs(%v) = %v, want %v", l, got, c.b)
		}
		if c.seq <= 1<<20 {
			readsIDs(t, c.b, 1, l, api.OK)
			continue
		}
		readsIDs(t, c.b, 1, nil, api.ErrForm)
		readsIDs(t, c.b, 0, nil, api.ErrLong)
	}
}

// P8.2: each replica that a byte can be, with and without an event.
func TestReplicasOfIDs(t *testing.T) {
	for rep := range 256 {
		for _, seq := range []uint32{0, 1, 256, 1 << 20} {
			want := []byte{byte(rep)}
			switch seq {
			case 1:
				want = append(want, 1)
			case 256:
				want = append(want, 1, 0)
			case 1 << 20:
				want = append(want, 16, 0, 0)
			}
			if rep == 0 && seq == 0 {
				want = nil
			}
			want = append([]byte{byte(len(want))}, want...)
			if got := event.WriteIDs([]api.ID{id(rep, seq)}); !bytes.Equal(got, want) {
				t.Errorf("WriteIDs of %d.%d = %v, want %v", rep, seq, got, want)
			}
			readsIDs(t, want, 1, []api.ID{id(rep, seq)}, api.OK)
		}
	}
}

// P8.2: fields that are the bytes of no number, alone, ahead of others, and behind them.
func TestWrongIDs(t *testing.T) {
	for _, field := range [][]byte{
		{0},                       // a second form of the zero number
		{0, 0}, {1, 0}, {1, 0, 1}, // leading zeros
		{255, 0, 16, 0, 0}, {1, 0, 0}, // leading zeros
		{1, 16, 0, 1}, {0, 16, 0, 1}, // 2^20 and one more
		{1, 255, 255, 255, 255},      // 2^32 - 1
		{1, 1, 0, 0, 0, 0},           // 2^32, whose lower half is 0
		{1, 1, 0, 0, 0, 1},           // its lower half is 1
		{0, 1, 0, 0, 0, 0, 0, 0, 0},  // 2^56
		bytes.Repeat([]byte{255}, 9), // 2^64 - 1
		bytes.Repeat([]byte{1}, 10),  // nine digits
		append([]byte{1}, make([]byte, 9)...),
		[]byte(strings.Repeat("a", 254)),
		[]byte(strings.Repeat("a", 300)),
	} {
		one := pack(field)
		readsIDs(t, one, 1, nil, api.ErrForm)
		readsIDs(t, pack(field, []byte{1, 1}), 2, nil, api.ErrForm)
		readsIDs(t, pack([]byte{1, 1}, nil, field), 3, nil, api.ErrForm)
		// how many there are comes ahead of what they are
		readsIDs(t, one, 0, nil, api.ErrLong)
		readsIDs(t, one, -1, nil, api.ErrLong)
		readsIDs(t, pack(field, []byte{1, 1}), 1, nil, api.ErrLong)
		readsIDs(t, pack([]byte{1, 1}, field), 1, nil, api.ErrLong)
		// so does a later field that is cut, or whose length has a second form
		readsIDs(t, append(slices.Clone(one), 2, 1), 8, nil, api.ErrCut)
		readsIDs(t, append(slices.Clone(one), 255, 0), 8, nil, api.ErrCut)
		readsIDs(t, append(slices.Clone(one), 2, 1), 0, nil, api.ErrLong)
		readsIDs(t, append(slices.Clone(one), 2, 1), 1, nil, api.ErrCut)
	}
}

// pack is encoded fields, told anew.
func pack(fields ...[]byte) []byte {
	var b []byte
	for _, f := range fields {
		if len(f) >= 255 {
			b = append(b, 255, byte(len(f)/256))
		}
		b = append(b, byte(len(f)))
		b = append(b, f...)
	}
	return b
}

// P8.2: bytes that Unpack refuses, and which of two faults comes first.
func TestIDsThatEndTooEarly(t *testing.T) {
	for _, c := range []struct {
		b    []byte
		most int
		want api.Errno
	}{
		{[]byte{1}, 8, api.ErrCut},
		{[]byte{2, 1}, 8, api.ErrCut},
		{[]byte{2, 1, 1, 3, 1, 1}, 8, api.ErrCut},
		{[]byte{255}, 8, api.ErrCut},
		{[]byte{255, 1}, 8, api.ErrCut},
		{[]byte{255, 0, 255}, 8, api.ErrCut},
		{[]byte{255, 0, 2, 1, 1}, 8, api.ErrForm},
		{[]byte{2, 1, 1, 255, 0, 254}, 8, api.ErrForm},
		// field by field: a field that is whole is counted ahead of a later one that is cut
		{[]byte{2, 1, 1, 2, 1}, 0, api.ErrLong},
		{[]byte{2, 1, 1, 2, 1}, 1, api.ErrCut},
		{[]byte{2, 1, 1, 0, 2, 1}, 1, api.ErrLong},
		{[]byte{2, 1, 1, 255, 0, 1, 5}, 1, api.ErrForm},
		{[]byte{2, 1, 1, 255, 0, 1, 5}, 0, api.ErrLong},
		{[]byte{2, 1}, 0, api.ErrCut},
		{[]byte{255, 0, 1, 5}, -1, api.ErrForm},
	} {
		readsIDs(t, c.b, c.most, nil, c.want)
	}
}

// P8.2: ReadIDs of all byte sequences of up to seven bytes of some kinds is what the chapter says, told anew; what it reads has no other bytes.
func TestReadIDsOfAllShortBytes(t *testing.T) {
	level := [][]byte{nil}
	for range 8 {
		var next [][]byte
		for _, b := range level {
			for most := -1; most <= 4; most++ {
				want, wantErr := expectIDs(b, most)
				got, err := event.ReadIDs(b, most)
				if !slices.Equal(got, want) || err != wantErr {
					t.Fatalf("ReadIDs(%v, %d) = %v, %d, want %v, %d", b, most, got, err, want, wantErr)
				}
				if err == api.OK && !bytes.Equal(event.WriteIDs(got), b) {
					t.Fatalf("WriteIDs(%v) = %v, and not %v", got, event.WriteIDs(got), b)
				}
			}
			for _, c := range []byte{0, 1, 2, 16, 255} {
				next = append(next, append(slices.Clone(b), c))
			}
		}
		level = next
	}
}

// cutFields is what layer 1 says of Unpack(b, most), told anew.
func cutFields(b []byte, most int) (l [][]byte, err api.Errno) {
	for len(b) > 0 {
		n, head := int(b[0]), 1
		if n == 255 {
			if len(b) < 3 {
				return nil, api.ErrCut
			}
			n, head = int(b[1])*256+int(b[2]), 3
			if n < 255 {
				return nil, api.ErrForm
			}
		}
		if len(b) < head+n {
			return nil, api.ErrCut
		}
		if len(l) >= most {
			return nil, api.ErrLong
		}
		l = append(l, b[head:head+n])
		b = b[head+n:]
	}
	return l, api.OK
}

// expectNum is the number whose bytes b are, if it is at most top, told anew.
func expectNum(b []byte, top int) (n int, ok bool) {
	if len(b) > 0 && b[0] == 0 {
		return 0, false
	}
	for _, digit := range b {
		if n = n*256 + int(digit); n > top {
			return 0, false
		}
	}
	return n, true
}

// expectID is the event number whose bytes b are, told anew.
func expectID(b []byte) (api.ID, bool) {
	if len(b) == 0 {
		return api.ID{}, true
	}
	n, ok := expectNum(b[1:], 1<<20)
	if !ok || len(b) == 1 && b[0] == 0 {
		return api.ID{}, false
	}
	return id(int(b[0]), uint32(n)), true
}

// expectIDs is what the chapter says of ReadIDs(b, most), told anew.
func expectIDs(b []byte, most int) ([]api.ID, api.Errno) {
	fields, err := cutFields(b, most)
	if err != api.OK {
		return nil, err
	}
	var l []api.ID
	for _, f := range fields {
		x, ok := expectID(f)
		if !ok {
			return nil, api.ErrForm
		}
		l = append(l, x)
	}
	return l, api.OK
}

// P8.2: a long list, both ways.
func TestManyIDs(t *testing.T) {
	var l []api.ID
	for i := range 30000 {
		l = append(l, id(i%256, uint32(i*35%(1<<20+1))))
	}
	b := event.WriteIDs(l)
	readsIDs(t, b, 30000, l, api.OK)
	if got, err := event.ReadIDs(b, 29999); len(got) != 0 || err != api.ErrLong {
		t.Errorf("%d numbers, %d", len(got), err)
	}
}

// P8.2: unlike lists have unlike bytes.
func TestUnlikeLists(t *testing.T) {
	ids := []api.ID{{}, id(0, 1), id(1, 0), id(1, 1), id(1, 256), id(0, 256), id(255, 1<<20), id(2, 1), id(0, 0x0101), id(1, 0x0201)}
	seen := map[string][]api.ID{}
	var grow func(l []api.ID)
	grow = func(l []api.ID) {
		b := string(event.WriteIDs(l))
		if other, ok := seen[b]; ok {
			t.Fatalf("%v and %v have one form", l, other)
		}
		seen[b] = l
		readsIDs(t, []byte(b), 4, l, api.OK)
		if len(l) == 4 {
			return
		}
		for _, x := range ids {
			grow(append(slices.Clone(l), x))
		}
	}
	grow(nil)
}
