package span_test

import (
	"bytes"
	"slices"
	"testing"

	"wardship/api"
	"wardship/span"
)

// noise is n bytes that a plain rule makes of a seed; the first two seldom name an index twice, and small ones come often.
func noise(seed uint32, n int) []byte {
	b := make([]byte, n)
	for i := range b {
		seed = seed*1664525 + 1013904223
		x := byte(seed >> 16)
		switch seed >> 28 {
		case 0, 1:
			b[i] = x
		case 2:
			b[i] = 255
		default:
			b[i] = x % 5
		}
	}
	return b
}

// P1, P2: no call panics, whatever it is given, and what it says hangs on its arguments alone, in whatever order things are asked.
func TestNoise(t *testing.T) {
	found := map[api.Errno]int{}
	for seed := range uint32(60000) {
		b := noise(seed, int(seed%23))
		before := slices.Clone(b)
		_, e := expect(b)
		found[e]++
		reads(t, b)
		orders(t, b, noise(seed+1, int(seed%19)))
		reads(t, b)
		if !bytes.Equal(b, before) {
			t.Fatalf("%v became %v", before, b)
		}
	}
	for _, e := range []api.Errno{api.OK, api.ErrCut, api.ErrForm, api.ErrLong} {
		if found[e] < 100 {
			t.Errorf("only %d of the bytes have the error %d", found[e], e)
		}
	}
}

// Rule 4: what lies behind the end of the bytes is neither read nor written, though it would complete them.
func TestNothingBehindTheEnd(t *testing.T) {
	all := []byte{1, 128, 2, 1, 44, 1, 3, 9, 9}
	before := slices.Clone(all)
	base := api.Vec{7: 5}
	for n := range 7 {
		grows(t, all[:n], base, api.Vec{}, api.ErrCut)
		refuses(t, all[:n], all[:7], api.ErrCut)
		refuses(t, all[:7], all[:n], api.ErrCut)
		if b, e := span.Rebase(all[:n], base, base); len(b) != 0 || e != api.ErrCut {
			t.Errorf("Rebase of %d bytes = %v, %d", n, b, e)
		}
	}
	grows(t, all[:7], base, api.Vec{0: 300, 7: 2}, api.OK)
	isOrder(t, all[:7], all[:7:7], 0)
	if b, e := span.Rebase(all[:7], base, api.Vec{}); !bytes.Equal(b, []byte{129, 0, 2, 1, 44, 1, 2}) || e != api.OK {
		t.Errorf("Rebase = %v, %d", b, e)
	}
	if !bytes.Equal(all, before) {
		t.Errorf("%v became %v", before, all)
	}
}

// Rule 4: what Shrink returns shares nothing with another result.
func TestShrinkSharesNothing(t *testing.T) {
	for _, v := range vectors() {
		first, second := span.Shrink(v, api.Vec{3}), span.Shrink(v, api.Vec{3})
		want := slices.Clone(second)
		spoil(first)
		if !bytes.Equal(second, want) || !bytes.Equal(span.Shrink(v, api.Vec{3}), want) {
			t.Fatalf("Shrink's results share memory: %v, want %v", second, want)
		}
	}
}

// spoil changes all that a slice can reach.
func spoil(b []byte) {
	b = b[:cap(b)]
	for i := range b {
		b[i] ^= 255
	}
}

// Rule 4: what Rebase returns shares nothing with the bytes that it was given, also where it is the same, nor with another result.
func TestRebaseSharesNothing(t *testing.T) {
	for _, v := range vectors() {
		for _, next := range []api.Vec{{3}, {}, v} {
			b := span.Shrink(v, api.Vec{3})
			before := slices.Clone(b)
			first, e := span.Rebase(b, api.Vec{3}, next)
			second, f := span.Rebase(b, api.Vec{3}, next)
			want := slices.Clone(second)
			if e != api.OK || f != api.OK {
				t.Fatal(e, f)
			}
			spoil(first)
			if !bytes.Equal(b, before) || !bytes.Equal(second, want) {
				t.Fatalf("a change of a result shows in %v, or in %v", b, second)
			}
			spoil(b)
			if !bytes.Equal(second, want) {
				t.Fatalf("a change of the bytes shows in a result: %v", second)
			}
		}
	}
}

// Rule 4: Grow and Order keep nothing of the bytes, and leave them as they are.
func TestNothingIsKept(t *testing.T) {
	b := []byte{1, 2, 1, 3, 1, 1}
	base := api.Vec{2, 4}
	v, _ := span.Grow(b, base)
	isOrder(t, b, b, 0)
	if !bytes.Equal(b, []byte{1, 2, 1, 3, 1, 1}) || base != (api.Vec{2, 4}) {
		t.Errorf("the arguments became %v and %v", b, base)
	}
	b[3], b[5] = 9, 2
	if v != (api.Vec{5, 3}) {
		t.Errorf("a change of the bytes shows in %v", v)
	}
	grows(t, b, base, api.Vec{11, 2}, api.OK)
	isOrder(t, b, []byte{1, 2, 1, 3, 1, 1}, 2)
}
