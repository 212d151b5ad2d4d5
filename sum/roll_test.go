package sum_test

import (
	"math"
	"math/big"
	"slices"
	"testing"

	"wardship/sum"
)

// expectRoll is what the chapter says of Roll, in numbers without bounds.
func expectRoll(s uint32, n int, out, in byte) uint32 {
	m := big.NewInt(modulus)
	low := big.NewInt(int64(s%65536) - int64(out) + int64(in))
	low.Mod(low, m)
	high := new(big.Int).Mul(big.NewInt(int64(max(n, 0))), big.NewInt(int64(out)))
	high.Sub(big.NewInt(int64(s/65536)), high)
	high.Add(high, low).Sub(high, big.NewInt(1)).Mod(high, m)
	return uint32(high.Int64()<<16 + low.Int64())
}

// P2.2: results that were worked out by hand.
func TestRollOfKnownSums(t *testing.T) {
	for _, c := range []struct {
		s       uint32
		n       int
		out, in byte
		want    uint32
	}{
		{0x024d0127, 3, 'a', 'd', 0x0253012a},
		{0x00620062, 1, 'a', 'b', 0x00630063},
		{0x00620062, 1, 'a', 'a', 0x00620062},
		{0x00010001, 1, 0, 0, 0x00010001},
		{1, 0, 0, 0, 1},
		{1, 0, 0, 5, 0x00050006},
		{1, 0, 5, 0, 0xffecffed}, // 1 - 5, and 0 - 0 + 65517 - 1
		{0, 0, 0, 0, 0xfff00000},
		{0, 0, 1, 0, 0xffeffff0},
		{0, 1, 1, 0, 0xffeefff0},
		{0, -1, 1, 0, 0xffeffff0},
		{0, -65520, 255, 255, 0xfff00000},
		{0xfff0fff0, 0, 0, 1, 0xffef0000},
		{0xfff0fff0, 0, 0, 2, 0xfff00001},
		{0xfff0fff0, 0, 0, 3, 0x00000002},
		{0xfff1fff1, 0, 0, 0, 0xfff00000},
		{0xffffffff, 0, 0, 0, 0x001b000e},
	} {
		if got := sum.Roll(c.s, c.n, c.out, c.in); got != c.want {
			t.Errorf("Roll(%08x, %d, %d, %d) = %08x, want %08x", c.s, c.n, c.out, c.in, got, c.want)
		}
	}
}

// P2.2: any arguments: halves at and around 65521, an n of 0, below 0, around 65521 and very large.
func TestRollOfAnyArguments(t *testing.T) {
	halves := []uint32{0, 1, 2, 254, 255, 256, 32768, 65265, 65266, 65519, 65520, 65521, 65522, 65534, 65535}
	ns := []int{
		math.MinInt, math.MinInt + 1, -1 << 32, -65522, -65521, -65520, -2, -1, 0, 1, 2, 3, 256,
		65520, 65521, 65522, 2*65521 - 1, 2 * 65521, 1 << 23, 1<<31 - 1, 1 << 31, 1 << 32, 1 << 55, 1 << 56, math.MaxInt - 1, math.MaxInt,
	}
	bytes := []byte{0, 1, 2, 128, 254, 255}
	for _, high := range halves {
		for _, low := range halves {
			for _, n := range ns {
				for _, out := range bytes {
					for _, in := range bytes {
						s := high<<16 | low
						want := expectRoll(s, n, out, in)
						if got := sum.Roll(s, n, out, in); got != want {
							t.Fatalf("Roll(%08x, %d, %d, %d) = %08x, want %08x", s, n, out, in, got, want)
						}
					}
				}
			}
		}
	}
}

// P2.2: an n below 0 counts as 0.
func TestRollOfNegativeCounts(t *testing.T) {
	for _, n := range []int{-1, -2, -65520, -65521, -65522, math.MinInt, math.MinInt + 1} {
		for _, s := range []uint32{0, 1, 0x024d0127, 0xfff0fff0, 0xffffffff} {
			if got, want := sum.Roll(s, n, 200, 7), sum.Roll(s, 0, 200, 7); got != want {
				t.Errorf("Roll(%08x, %d) = %08x, and with 0 %08x", s, n, got, want)
			}
		}
	}
}

// P2.2: the checksum of all short byte sequences rolls along.
func TestRollOfAllShortBytes(t *testing.T) {
	letters := []byte{0, 1, 127, 255}
	texts(letters, 5, func(b []byte) {
		if len(b) == 0 {
			return
		}
		for _, in := range letters {
			want := sum.Sum(append(slices.Clone(b[1:]), in))
			if got := sum.Roll(sum.Sum(b), len(b), b[0], in); got != want {
				t.Fatalf("Roll along %v and %d = %08x, want %08x", b, in, got, want)
			}
		}
	})
}

// P2.2: a window slides along long bytes, at each step with the checksum of what it covers.
func TestRollSlides(t *testing.T) {
	b := noise(7, 4000)
	for i := 1000; i < 2000; i++ {
		b[i] = 255
	}
	for _, n := range []int{1, 2, 3, 64, 256, 999} {
		s := sum.Sum(b[:n])
		for i := n; i < len(b); i++ {
			s = sum.Roll(s, n, b[i-n], b[i])
			if want := expect(b[i-n+1 : i+1]); s != want {
				t.Fatalf("a window of %d at %d has %08x, want %08x", n, i-n+1, s, want)
			}
		}
	}
}

// P2.2: windows as long as the modulus, and longer.
func TestRollOfLongWindows(t *testing.T) {
	for _, n := range []int{65519, 65520, 65521, 65522, 2 * 65521, 200000} {
		for _, b := range [][]byte{make([]byte, n+20), totalling(255*n+255*19+1, 0), noise(uint32(n), n+20)} {
			s := sum.Sum(b[:n])
			for i := n; i < n+20; i++ {
				s = sum.Roll(s, n, b[i-n], b[i])
				if want := expect(b[i-n+1 : i+1]); s != want {
					t.Fatalf("a window of %d at %d has %08x, want %08x", n, i-n+1, s, want)
				}
			}
		}
	}
}
