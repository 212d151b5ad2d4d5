package sum_test

import (
	"bytes"
	"slices"
	"testing"

	"wardship/api"
	"wardship/sum"
)

// P2.1: Seal is the bytes with their checksum behind them, the most significant byte first.
func TestSeal(t *testing.T) {
	for _, c := range []struct {
		b, want []byte
	}{
		{nil, []byte{0, 0, 0, 1}},
		{[]byte{}, []byte{0, 0, 0, 1}},
		{[]byte{0}, []byte{0, 0, 1, 0, 1}},
		{[]byte("abc"), []byte("abc\x02\x4d\x01\x27")},
		{[]byte{0, 0, 0, 1}, []byte{0, 0, 0, 1, 0, 5, 0, 2}},
	} {
		if got := sum.Seal(c.b); !bytes.Equal(got, c.want) {
			t.Errorf("Seal(%v) = %v, want %v", c.b, got, c.want)
		}
	}
	long := totalling(65520, 65521)
	s := expect(long)
	want := append(slices.Clone(long), byte(s>>24), byte(s>>16), byte(s>>8), byte(s))
	if !bytes.Equal(sum.Seal(long), want) {
		t.Error("Seal of long bytes differs")
	}
}

// P2.1: Open is the bytes ahead of their checksum.
func TestOpen(t *testing.T) {
	for _, c := range []struct {
		b, want []byte
	}{
		{[]byte{0, 0, 0, 1}, nil},
		{[]byte{0, 0, 1, 0, 1}, []byte{0}},
		{[]byte("abc\x02\x4d\x01\x27"), []byte("abc")},
		{[]byte{0, 0, 0, 1, 0, 5, 0, 2}, []byte{0, 0, 0, 1}},
	} {
		if got, e := sum.Open(c.b); e != api.OK || !bytes.Equal(got, c.want) {
			t.Errorf("Open(%v) = %v, %d, want %v, 0", c.b, got, e, c.want)
		}
	}
}

// P2.1: Open of sealed bytes is the bytes.
func TestOpenUndoesSeal(t *testing.T) {
	check := func(b []byte) {
		if got, e := sum.Open(sum.Seal(b)); e != api.OK || !bytes.Equal(got, b) {
			t.Fatalf("Open of %d sealed bytes: %d bytes, %d", len(b), len(got), e)
		}
	}
	texts([]byte{0, 1, 2, 128, 255}, 5, check)
	for _, n := range []int{255, 256, 65520, 65521, 65522, 1 << 18} {
		check(make([]byte, n))
		check(bytes.Repeat([]byte{255}, n))
		check(noise(uint32(n), n))
	}
	for total := 65515; total < 65530; total++ {
		check(totalling(total, 0))
	}
}

// P2.1, rule 2: fewer than four bytes are ErrCut, whatever they are, and there are no bytes beside it.
func TestOpenOfTooFewBytes(t *testing.T) {
	texts([]byte{0, 1, 255}, 3, func(b []byte) {
		if got, e := sum.Open(b); len(got) != 0 || e != api.ErrCut {
			t.Errorf("Open(%v) = %v, %d, want none, %d", b, got, e, api.ErrCut)
		}
	})
	sealed := sum.Seal([]byte("abc"))
	for n := range 4 {
		for _, part := range [][]byte{sealed[:n], sealed[len(sealed)-n:]} {
			if got, e := sum.Open(part); len(got) != 0 || e != api.ErrCut {
				t.Errorf("Open(%v) = %v, %d, want none, %d", part, got, e, api.ErrCut)
			}
		}
	}
}

// P2.1: of all kinds of four bytes, only the checksum of no bytes is right; ErrSum comes from four bytes on.
func TestOpenOfFourBytes(t *testing.T) {
	letters := []byte{0, 1, 2, 127, 254, 255}
	texts(letters, 4, func(b []byte) {
		if len(b) < 4 {
			return
		}
		want := api.ErrSum
		if bytes.Equal(b, []byte{0, 0, 0, 1}) {
			want = api.OK
		}
		if got, e := sum.Open(b); len(got) != 0 || e != want {
			t.Errorf("Open(%v) = %v, %d, want none, %d", b, got, e, want)
		}
	})
}

// P2.1: checksums that are nearly right are ErrSum, and there are no bytes beside it.
func TestOpenOfWrongSums(t *testing.T) {
	for _, b := range [][]byte{
		{1, 0, 0, 0},                   // the least significant byte first
		{0, 1, 0, 0},                   // the halves swapped
		{0, 0, 0, 0},                   // the sum without the 1
		{255, 241, 0, 1},               // a high half of 65521
		{0, 0, 255, 242},               // a low half of 65522
		{255, 241, 255, 242},           // both
		{0, 255, 242, 0, 1},            // a high half of 65522, for 1
		[]byte("abc\x01\x27\x02\x4d"),  // the halves swapped
		[]byte("abc\x27\x01\x4d\x02"),  // the least significant byte first
		[]byte("\x02\x4d\x01\x27abc"),  // the checksum ahead
		[]byte("abc\x02\x4d\x01\x27a"), // a byte behind
		[]byte("ab\x02\x4d\x01\x27"),   // a byte less
		[]byte("abc\x02\x4d\x01"),      // the checksum cut
	} {
		if got, e := sum.Open(b); len(got) != 0 || e != api.ErrSum {
			t.Errorf("Open(%v) = %v, %d, want none, %d", b, got, e, api.ErrSum)
		}
	}
	low := append(totalling(65520, 0), 0, 0, 255, 241)
	s := expect(low[:len(low)-4])
	low[len(low)-4], low[len(low)-3] = byte(s>>24), byte(s>>16)
	if got, e := sum.Open(low); len(got) != 0 || e != api.ErrSum {
		t.Errorf("Open with a low half of 65521 for 0: %d bytes, %d", len(got), e)
	}
	high := append(make([]byte, 65521), 255, 241, 0, 1)
	if got, e := sum.Open(high); len(got) != 0 || e != api.ErrSum {
		t.Errorf("Open with a high half of 65521 for 0: %d bytes, %d", len(got), e)
	}
}

// Rule 4: Seal changes no argument, touches nothing behind its end, and its result shares nothing with it or with another one.
func TestSealSharesNothing(t *testing.T) {
	all := []byte("abcdefghij")
	first, second := sum.Seal(all[:3]), sum.Seal(all[:3])
	if string(all) != "abcdefghij" {
		t.Errorf("Seal left %q", all)
	}
	first[0], all[1] = 'x', 'y'
	_ = append(first, 'z')
	if string(second) != "abc\x02\x4d\x01\x27" || string(all) != "aycdefghij" || first[1] != 'b' {
		t.Errorf("a change shows in %q, %q or %q", first, second, all)
	}
	none, again := sum.Seal(nil), sum.Seal(nil)
	none[3] = 9
	if !bytes.Equal(again, []byte{0, 0, 0, 1}) || !bytes.Equal(sum.Seal(nil), []byte{0, 0, 0, 1}) {
		t.Errorf("the seals of no bytes share memory: %v", again)
	}
}

// Rule 4: so with Open.
func TestOpenSharesNothing(t *testing.T) {
	all := append(sum.Seal([]byte("abc")), "more"...)
	sealed := all[:7]
	first, _ := sum.Open(sealed)
	second, _ := sum.Open(sealed)
	first[0] = 'x'
	_ = append(first, 1, 2, 3, 4, 5)
	if string(all) != "abc\x02\x4d\x01\x27more" {
		t.Errorf("a change of the result shows in the argument: %q", all)
	}
	clear(all)
	if string(first) != "xbc" || string(second) != "abc" {
		t.Errorf("a change shows in %q or %q", first, second)
	}
}

// Rule 4: what lies behind the end of a slice isn't read.
func TestOpenReadsNoFurther(t *testing.T) {
	sealed := sum.Seal([]byte("abc"))
	if got, e := sum.Open(sealed[:6]); len(got) != 0 || e != api.ErrSum {
		t.Errorf("Open of a part = %v, %d", got, e)
	}
	if got, e := sum.Open(sealed[:3]); len(got) != 0 || e != api.ErrCut {
		t.Errorf("Open of a part = %v, %d", got, e)
	}
}
