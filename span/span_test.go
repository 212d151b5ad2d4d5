package span_test

import (
	"bytes"
	"math"
	"testing"

	"wardship/api"
	"wardship/span"
)

// most is the greatest number of a vector, and the greatest difference.
const most = math.MaxUint32

// shrinks checks both ways that the bytes of v relative to base are want.
func shrinks(t *testing.T, v, base api.Vec, want []byte) {
	t.Helper()
	if got := span.Shrink(v, base); !bytes.Equal(got, want) {
		t.Errorf("Shrink(%v, %v) = %v, want %v", v, base, got, want)
	}
	grows(t, want, base, v, api.OK)
}

// grows checks what Grow says.
func grows(t *testing.T, b []byte, base, want api.Vec, wantErr api.Errno) {
	t.Helper()
	if got, e := span.Grow(b, base); got != want || e != wantErr {
		t.Errorf("Grow(%v, %v) = %v, %d, want %v, %d", b, base, got, e, want, wantErr)
	}
}

// size is a difference and its bytes, with their number ahead of them.
type size struct {
	n uint32
	b []byte
}

// sizes is both sides of each further byte, and the least and the greatest difference.
func sizes() []size {
	return []size{
		{1, []byte{1, 1}},
		{2, []byte{1, 2}},
		{127, []byte{1, 127}},
		{128, []byte{1, 128}},
		{255, []byte{1, 255}},
		{256, []byte{2, 1, 0}},
		{300, []byte{2, 1, 44}},
		{1<<16 - 1, []byte{2, 255, 255}},
		{1 << 16, []byte{3, 1, 0, 0}},
		{1 << 20, []byte{3, 16, 0, 0}},
		{1<<24 - 1, []byte{3, 255, 255, 255}},
		{1 << 24, []byte{4, 1, 0, 0, 0}},
		{0x01020304, []byte{4, 1, 2, 3, 4}},
		{1<<31 - 1, []byte{4, 127, 255, 255, 255}},
		{1 << 31, []byte{4, 128, 0, 0, 0}},
		{most - 1, []byte{4, 255, 255, 255, 254}},
		{most, []byte{4, 255, 255, 255, 255}},
	}
}

// P7.1, P7.2: vectors whose bytes are written out; the chapter's example is the first.
func TestKnownBytes(t *testing.T) {
	for _, c := range []struct {
		v, base api.Vec
		want    []byte
	}{
		{api.Vec{5, 3}, api.Vec{2, 4}, []byte{1, 2, 1, 3, 1, 1}},
		{api.Vec{2, 4}, api.Vec{5, 3}, []byte{2, 1, 1, 3, 1, 1}},
		{api.Vec{}, api.Vec{}, []byte{0, 0}},
		{api.Vec{1}, api.Vec{}, []byte{1, 0, 1, 1}},
		{api.Vec{}, api.Vec{1}, []byte{0, 1, 1, 1}},
		{api.Vec{7: 1}, api.Vec{}, []byte{128, 0, 1, 1}},
		{api.Vec{}, api.Vec{7: 1}, []byte{0, 128, 1, 1}},
		{api.Vec{0: 2, 7: 300}, api.Vec{}, []byte{129, 0, 1, 2, 2, 1, 44}},
		{api.Vec{0: 300, 7: 2}, api.Vec{0: 1, 7: 4}, []byte{1, 128, 2, 1, 43, 1, 2}},
		{api.Vec{0: 1, 7: 4}, api.Vec{0: 300, 7: 2}, []byte{128, 1, 2, 1, 43, 1, 2}},
		{api.Vec{1, 2, 3, 4, 5, 6, 7, 8}, api.Vec{}, []byte{255, 0, 1, 1, 1, 2, 1, 3, 1, 4, 1, 5, 1, 6, 1, 7, 1, 8}},
		{api.Vec{}, api.Vec{1, 2, 3, 4, 5, 6, 7, 8}, []byte{0, 255, 1, 1, 1, 2, 1, 3, 1, 4, 1, 5, 1, 6, 1, 7, 1, 8}},
		{api.Vec{1, 0, 3, 0, 5, 0, 7, 0}, api.Vec{0, 2, 0, 4, 0, 6, 0, 8}, []byte{85, 170, 1, 1, 1, 2, 1, 3, 1, 4, 1, 5, 1, 6, 1, 7, 1, 8}},
		{api.Vec{1, 2, 3, 4, 5, 6, 7, 8}, api.Vec{8, 7, 6, 5, 4, 3, 2, 1}, []byte{240, 15, 1, 7, 1, 5, 1, 3, 1, 1, 1, 1, 1, 3, 1, 5, 1, 7}},
		{api.Vec{9, 300, 9, 70000, 9, 9, 9, 1 << 25}, api.Vec{9, 9, 10, 9, 9, 8, 9, 9}, []byte{170, 4, 2, 1, 35, 1, 1, 3, 1, 17, 103, 1, 1, 4, 1, 255, 255, 247}},
		{api.Vec{most, most}, api.Vec{most - 1, 0}, []byte{3, 0, 1, 1, 4, 255, 255, 255, 255}},
		{api.Vec{0, most}, api.Vec{most, 0}, []byte{2, 1, 4, 255, 255, 255, 255, 4, 255, 255, 255, 255}},
	} {
		shrinks(t, c.v, c.base, c.want)
	}
}

// P7.1, P7.2: a vector that is its base has the two bytes that name no index.
func TestTheBaseItself(t *testing.T) {
	for _, v := range vectors() {
		shrinks(t, v, v, []byte{0, 0})
	}
}

// P7.1, P7.2: each size of a difference, at each index alone, above the base and below it.
func TestEachSizeAtEachIndex(t *testing.T) {
	for _, s := range sizes() {
		for i := range 8 {
			for _, low := range []uint32{0, (most - s.n) / 2, most - s.n} {
				v := api.Vec{1, 0, most, 4, 1 << 31, 6, 7, 8}
				base := v
				v[i], base[i] = low+s.n, low
				shrinks(t, v, base, append([]byte{1 << i, 0}, s.b...))
				shrinks(t, base, v, append([]byte{0, 1 << i}, s.b...))
			}
		}
	}
}

// P7.1, P7.2: one size of a difference at all indices, above the base, below it, and in turn.
func TestEachSizeAtAllIndices(t *testing.T) {
	for _, s := range sizes() {
		body := bytes.Repeat(s.b, 8)
		var high, odd, even api.Vec
		for i := range high {
			high[i] = s.n
			if i%2 == 0 {
				even[i] = s.n
			} else {
				odd[i] = s.n
			}
		}
		shrinks(t, high, api.Vec{}, append([]byte{255, 0}, body...))
		shrinks(t, api.Vec{}, high, append([]byte{0, 255}, body...))
		shrinks(t, even, odd, append([]byte{0b01010101, 0b10101010}, body...))
		shrinks(t, odd, even, append([]byte{0b10101010, 0b01010101}, body...))
	}
}

// P7.1, P7.2: every choice of the indices above the base and below it.
func TestEachChoiceOfIndices(t *testing.T) {
	for greater := range 256 {
		for less := range 256 {
			if greater&less != 0 {
				continue
			}
			v, base := api.Vec{}, api.Vec{90, 80, 70, 60, 50, 40, 30, 20}
			b := []byte{byte(greater), byte(less)}
			for i := range v {
				v[i] = base[i]
				switch {
				case greater>>i&1 == 1:
					v[i] += uint32(i + 2)
					b = append(b, 1, byte(i+2))
				case less>>i&1 == 1:
					v[i] -= uint32(i + 2)
					b = append(b, 1, byte(i+2))
				}
			}
			shrinks(t, v, base, b)
		}
	}
}

// P7.2: a number may come to 0 and to 2^32 - 1, but neither below nor above, where narrower sums would wrap round.
func TestGrowAtTheEnds(t *testing.T) {
	for _, s := range sizes() {
		for i := range 8 {
			greater := append([]byte{1 << i, 0}, s.b...)
			less := append([]byte{0, 1 << i}, s.b...)
			grows(t, greater, with(i, 0), with(i, s.n), api.OK)
			grows(t, greater, with(i, most-s.n), with(i, most), api.OK)
			grows(t, greater, with(i, most-s.n+1), api.Vec{}, api.ErrForm)
			grows(t, greater, with(i, most), api.Vec{}, api.ErrForm)
			grows(t, less, with(i, most), with(i, most-s.n), api.OK)
			grows(t, less, with(i, s.n), with(i, 0), api.OK)
			grows(t, less, with(i, s.n-1), api.Vec{}, api.ErrForm)
			grows(t, less, with(i, 0), api.Vec{}, api.ErrForm)
		}
	}
}

// with is a vector of several numbers, of which the one at index i is n.
func with(i int, n uint32) api.Vec {
	v := api.Vec{3, 0, most, 20, 1 << 31, 1 << 20, 0, 9}
	v[i] = n
	return v
}

// P7.2: one number that comes below 0 or above 2^32 - 1 is enough, among others that don't; no vector stands beside the error.
func TestGrowWithOneNumberTooFar(t *testing.T) {
	for i := range 8 {
		base := api.Vec{5, 5, 5, 5, 5, 5, 5, 5}
		less := append([]byte{0, 255}, bytes.Repeat([]byte{1, 5}, 8)...)
		grows(t, less, base, api.Vec{}, api.OK)
		base[i] = 4
		grows(t, less, base, api.Vec{}, api.ErrForm)

		base = api.Vec{most - 5, most - 5, most - 5, most - 5, most - 5, most - 5, most - 5, most - 5}
		greater := append([]byte{255, 0}, bytes.Repeat([]byte{1, 5}, 8)...)
		grows(t, greater, base, api.Vec{most, most, most, most, most, most, most, most}, api.OK)
		base[i] = most - 4
		grows(t, greater, base, api.Vec{}, api.ErrForm)
	}
}

// P7.2: Rebase is the bytes of the same vector relative to another base.
func TestRebase(t *testing.T) {
	all := vectors()
	for i, v := range all {
		for k, base := range all {
			next := all[(i*7+k*3)%len(all)]
			for _, to := range []api.Vec{next, base, v, {}} {
				got, e := span.Rebase(span.Shrink(v, base), base, to)
				if want := span.Shrink(v, to); !bytes.Equal(got, want) || e != api.OK {
					t.Fatalf("Rebase from %v to %v of the bytes of %v = %v, %d, want %v", base, to, v, got, e, want)
				}
			}
		}
	}
}

// P7.2: Rebase of written bytes: a difference that goes, one that comes, ones that grow, shrink and turn round.
func TestRebaseOfKnownBytes(t *testing.T) {
	for _, c := range []struct {
		b          []byte
		base, next api.Vec
		want       []byte
		wantErr    api.Errno
	}{
		{[]byte{1, 2, 1, 3, 1, 1}, api.Vec{2, 4}, api.Vec{5, 3}, []byte{0, 0}, api.OK},
		{[]byte{1, 2, 1, 3, 1, 1}, api.Vec{2, 4}, api.Vec{}, []byte{3, 0, 1, 5, 1, 3}, api.OK},
		{[]byte{1, 2, 1, 3, 1, 1}, api.Vec{2, 4}, api.Vec{6, 2}, []byte{2, 1, 1, 1, 1, 1}, api.OK},
		{[]byte{1, 2, 1, 3, 1, 1}, api.Vec{2, 4}, api.Vec{5, 3, 300}, []byte{0, 4, 2, 1, 44}, api.OK},
		{[]byte{0, 0}, api.Vec{}, api.Vec{7: most}, []byte{0, 128, 4, 255, 255, 255, 255}, api.OK},
		{[]byte{0, 0}, api.Vec{7: most}, api.Vec{}, []byte{128, 0, 4, 255, 255, 255, 255}, api.OK},
		{[]byte{1, 0, 1, 255}, api.Vec{}, api.Vec{7: 1}, []byte{1, 128, 1, 255, 1, 1}, api.OK},
		// the base decides what may be, the other one doesn't
		{[]byte{0, 1, 1, 3}, api.Vec{2}, api.Vec{9}, nil, api.ErrForm},
		{[]byte{0, 1, 1, 3}, api.Vec{3}, api.Vec{}, []byte{0, 0}, api.OK},
		{[]byte{1, 0, 1, 3}, api.Vec{most - 2}, api.Vec{}, nil, api.ErrForm},
		{[]byte{1, 0, 1, 3}, api.Vec{most - 3}, api.Vec{most}, []byte{0, 0}, api.OK},
	} {
		if got, e := span.Rebase(c.b, c.base, c.next); !bytes.Equal(got, c.want) || e != c.wantErr {
			t.Errorf("Rebase(%v, %v, %v) = %v, %d, want %v, %d", c.b, c.base, c.next, got, e, c.want, c.wantErr)
		}
	}
}
