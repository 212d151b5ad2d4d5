package sum_test

import (
	"bytes"
	"hash/adler32"
	"slices"
	"testing"

	"wardship/sum"
)

const modulus = 65521

// expect is the checksum told anew, by how often each byte counts: once in the low half, and in the high half once for itself and for each byte behind it.
func expect(b []byte) uint32 {
	low, high := uint64(1), uint64(len(b))
	for i, c := range b {
		low += uint64(c)
		high += uint64(len(b)-i) * uint64(c)
	}
	return uint32(65536*(high%modulus) + low%modulus)
}

// texts calls see with every byte sequence of at most size bytes out of those of letters.
func texts(letters []byte, size int, see func([]byte)) {
	see(nil)
	level := [][]byte{nil}
	for range size {
		var next [][]byte
		for _, b := range level {
			for _, c := range letters {
				x := append(slices.Clone(b), c)
				see(x)
				next = append(next, x)
			}
		}
		level = next
	}
}

// noise is n bytes that a plain rule makes of a seed.
func noise(seed uint32, n int) []byte {
	b := make([]byte, n)
	for i := range b {
		seed = seed*1664525 + 1013904223
		b[i] = byte(seed >> 24)
	}
	return b
}

// totalling is bytes of that total, as many of 255 as there can be, with zeros behind them.
func totalling(total, zeros int) []byte {
	b := bytes.Repeat([]byte{255}, total/255)
	b = append(b, byte(total%255))
	return append(b, make([]byte, zeros)...)
}

// P2.1: the checksums that the chapter names, and others that were worked out by hand.
func TestSumOfKnownBytes(t *testing.T) {
	for _, c := range []struct {
		b    []byte
		want uint32
	}{
		{nil, 1},
		{[]byte{}, 1},
		{[]byte("abc"), 0x024d0127},
		{[]byte("a"), 0x00620062},
		{[]byte("bcd"), 0x0253012a},
		{[]byte("acb"), 0x024e0127},
		{[]byte("Wikipedia"), 0x11e60398},
		{[]byte{0}, 0x00010001},
		{[]byte{0, 0}, 0x00020001},
		{[]byte{1}, 0x00020002},
		{[]byte{255}, 0x01000100},
		{[]byte{255, 0}, 0x02000100},
		{[]byte{0, 255}, 0x01010100},
	} {
		if got := sum.Sum(c.b); got != c.want {
			t.Errorf("Sum(%v) = %08x, want %08x", c.b, got, c.want)
		}
	}
}

// P2.1: the low half is 0 again at 65521.
func TestSumLowHalfAtTheModulus(t *testing.T) {
	for total, want := range map[int]uint32{
		65518:       65519,
		65519:       65520,
		65520:       0,
		65521:       1,
		65522:       2,
		65535:       15,
		65536:       16,
		2 * 65521:   1,
		2*65521 - 1: 0,
		2*65521 - 2: 65520,
	} {
		for _, zeros := range []int{0, 1, 2} {
			b := totalling(total, zeros)
			if got := sum.Sum(b); got%65536 != want || got != expect(b) {
				t.Errorf("Sum of a total of %d = %08x, want %08x with the low half %d", total, got, expect(b), want)
			}
		}
	}
}

// P2.1: the high half is 0 again at 65521; a zero adds 1 to it, as long as there is no other byte.
func TestSumHighHalfAtTheModulus(t *testing.T) {
	for n, want := range map[int]uint32{
		65519:       65519<<16 | 1,
		65520:       65520<<16 | 1,
		65521:       1,
		65522:       1<<16 | 1,
		65535:       14<<16 | 1,
		65536:       15<<16 | 1,
		2*65521 - 1: 65520<<16 | 1,
		2 * 65521:   1,
	} {
		if got := sum.Sum(make([]byte, n)); got != want {
			t.Errorf("Sum of %d zeros = %08x, want %08x", n, got, want)
		}
	}
}

// P2.1: all short byte sequences.
func TestSumOfAllShortBytes(t *testing.T) {
	texts([]byte{0, 1, 2, 127, 128, 255}, 6, func(b []byte) {
		if got := sum.Sum(b); got != expect(b) {
			t.Fatalf("Sum(%v) = %08x, want %08x", b, got, expect(b))
		}
	})
}

// P2.1: long byte sequences, whose halves pass the modulus often; by the formula, and by the library's Adler-32.
func TestSumOfLongBytes(t *testing.T) {
	for _, n := range []int{100, 255, 256, 257, 5551, 5552, 5553, 16000, 65521, 70000, 1 << 20} {
		for _, b := range [][]byte{bytes.Repeat([]byte{255}, n), noise(uint32(n), n)} {
			got := sum.Sum(b)
			if got != expect(b) || got != adler32.Checksum(b) {
				t.Errorf("Sum of %d bytes = %08x, want %08x", n, got, expect(b))
			}
		}
	}
}

// P2.1: neither half is ever 65521 or more.
func TestSumHalvesAreReduced(t *testing.T) {
	b := bytes.Repeat([]byte{255}, 3000)
	for n := range b {
		if s := sum.Sum(b[:n]); s>>16 >= modulus || s%65536 >= modulus {
			t.Fatalf("Sum of %d bytes = %08x", n, s)
		}
	}
}

// Rule 4, P2: Sum neither changes bytes nor reads behind their end, and answers the same again.
func TestSumLeavesBytes(t *testing.T) {
	all := []byte("abcd")
	for range 2 {
		if got := sum.Sum(all[:3]); got != 0x024d0127 {
			t.Errorf("Sum of a part = %08x", got)
		}
	}
	if string(all) != "abcd" {
		t.Errorf("Sum left %q", all)
	}
}
