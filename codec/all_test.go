package codec_test

import (
	"bytes"
	"slices"
	"testing"

	"wardship/api"
	"wardship/codec"
)

// texts calls see with every byte sequence of at most size bytes out of those of letters.
func texts(letters []byte, size int, see func([]byte)) {
	see(nil)
	level := [][]byte{nil}
	for range size {
		var next [][]byte
		for _, b := range level {
			for _, c := range letters {
				x := append(slices.Clone(b), c)
				see(x)
				next = append(next, x)
			}
		}
		level = next
	}
}

// expect is what the chapter says of Unpack(b, most), told anew: by places in b, and by every field's error apart.
func expect(b []byte, most int) ([][]byte, api.Errno) {
	var l [][]byte
	for at := 0; at < len(b); {
		n, head := int(b[at]), 1
		if n == 255 {
			head = 3
			if at+3 > len(b) {
				return nil, api.ErrCut
			}
			n = 256*int(b[at+1]) + int(b[at+2])
			if n <= 254 {
				return nil, api.ErrForm
			}
		}
		if at+head+n > len(b) {
			return nil, api.ErrCut
		}
		if most <= len(l) {
			return nil, api.ErrLong
		}
		l = append(l, b[at+head:at+head+n])
		at += head + n
	}
	return l, api.OK
}

// P1.2: Unpack of all short byte sequences is what the chapter says, for each most; where it has no error, there is no other form.
func TestUnpackOfAllShortBytes(t *testing.T) {
	texts([]byte{0, 1, 2, 3, 254, 255}, 6, func(b []byte) {
		for most := -1; most <= 7; most++ {
			want, e := expect(b, most)
			got, f := codec.Unpack(b, most)
			if e != f || !sameLists(got, want) {
				t.Fatalf("Unpack(%v, %d) = %v, %d, want %v, %d", b, most, got, f, want, e)
			}
		}
		l, e := codec.Unpack(b, 7)
		if e != api.OK {
			return
		}
		if again, e := codec.Pack(l...); e != api.OK || !bytes.Equal(again, b) {
			t.Fatalf("Pack of the fields of %v = %v, %d", b, again, e)
		}
	})
}

// lists calls see with every list of at most size of the fields.
func lists(fields [][]byte, size int, see func([][]byte)) {
	var grow func(l [][]byte)
	grow = func(l [][]byte) {
		see(l)
		if len(l) == size {
			return
		}
		for _, f := range fields {
			grow(append(slices.Clone(l), f))
		}
	}
	grow(nil)
}

// P1.3: Unpack of packed fields is the fields, and different lists have different encodings.
func TestPackedListsDiffer(t *testing.T) {
	fields := [][]byte{
		{}, {0}, {1}, {255}, {0, 0}, {1, 0}, {0, 1}, {255, 0, 255}, {1, 0, 0},
		filled(253), filled(254), filled(255), filled(256), make([]byte, 255), make([]byte, 300),
	}
	seen := map[string]int{}
	count := 0
	lists(fields, 3, func(l [][]byte) {
		count++
		b, e := codec.Pack(l...)
		if e != api.OK {
			t.Fatalf("Pack of a list of %d fields: %d", len(l), e)
		}
		if other := seen[string(b)]; other != 0 {
			t.Fatalf("the lists %d and %d have one encoding", other, count)
		}
		seen[string(b)] = count
		if back, e := codec.Unpack(b, len(l)); e != api.OK || !sameLists(back, l) {
			t.Fatalf("Unpack of packed fields: %d fields of %d, %d", len(back), len(l), e)
		}
		if _, e := codec.Unpack(b, len(l)-1); len(l) > 0 && e != api.ErrLong {
			t.Fatalf("Unpack of a field too many: %d", e)
		}
	})
}

// P1.3, at the greatest size of a field.
func TestPackedLongFields(t *testing.T) {
	l := [][]byte{filled(65535), nil, filled(65534), filled(65535)}
	b, e := codec.Pack(l...)
	if e != api.OK {
		t.Fatal(e)
	}
	if back, e := codec.Unpack(b, 4); e != api.OK || !sameLists(back, l) {
		t.Errorf("Unpack of long fields: %d of 4, %d", len(back), e)
	}
}

// P1.3: wherever packed fields are cut, Unpack returns the whole fields ahead of the cut, or ErrCut.
func TestPackedFieldsCut(t *testing.T) {
	l := [][]byte{[]byte("ab"), nil, filled(254), filled(255), []byte("c")}
	b, _ := codec.Pack(l...)
	ends := map[int]int{}
	for n := range len(l) + 1 {
		part, _ := codec.Pack(l[:n]...)
		ends[len(part)] = n + 1
	}
	for i := range len(b) + 1 {
		got, e := codec.Unpack(b[:i], len(l))
		if n := ends[i]; n > 0 {
			if e != api.OK || !sameLists(got, l[:n-1]) {
				t.Errorf("cut at %d: %d fields, %d", i, len(got), e)
			}
		} else if len(got) != 0 || e != api.ErrCut {
			t.Errorf("cut at %d: %d fields, %d", i, len(got), e)
		}
	}
}

// noise is n bytes that a plain rule makes of a seed; small ones and 255 come often, for the sake of the lengths.
func noise(seed uint32, n int) []byte {
	b := make([]byte, n)
	for i := range b {
		seed = seed*1664525 + 1013904223
		x := seed >> 16
		switch x % 4 {
		case 0:
			b[i] = byte(x >> 8 % 4)
		case 1:
			b[i] = 255
		default:
			b[i] = byte(x >> 8)
		}
	}
	return b
}

// P1, P2: every call ends without a panic for bytes of any kind, and answers the same again; Num and AsNum undo each other.
func TestNoise(t *testing.T) {
	for seed := range uint32(4000) {
		b := noise(seed, int(seed%700))
		first, e := codec.Unpack(b, int(seed%9)-1)
		want, f := expect(b, int(seed%9)-1)
		again, g := codec.Unpack(b, int(seed%9)-1)
		if e != f || e != g || !sameLists(first, want) || !sameLists(first, again) {
			t.Fatalf("Unpack of noise %d: %d, %d, want %d", seed, e, g, f)
		}
		if !sameSteps(steps(codec.Fields(b)), steps(codec.Fields(b))) {
			t.Fatalf("Fields of noise %d differ", seed)
		}
		for size := range 12 {
			part := noise(seed+uint32(size), size)
			n, e := codec.AsNum(part)
			m, f := codec.AsNum(part)
			if n != m || e != f {
				t.Fatalf("AsNum(%v) differs", part)
			}
			if e == api.OK && !bytes.Equal(codec.Num(n), part) {
				t.Fatalf("Num(AsNum(%v)) = %v", part, codec.Num(n))
			}
		}
	}
}
