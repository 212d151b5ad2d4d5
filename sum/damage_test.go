package sum_test

import (
	"bytes"
	"slices"
	"testing"

	"wardship/api"
	"wardship/sum"
)

// refused tells whether Open answers ErrSum, and no bytes beside it.
func refused(b []byte) bool {
	got, e := sum.Open(b)
	return len(got) == 0 && e == api.ErrSum
}

// bodies are byte sequences of several kinds and lengths, those among them whose halves are at and around 65521.
func bodies() [][]byte {
	list := [][]byte{nil, {0}, {255}, []byte("abc"), {0, 1, 0, 1}, {255, 0, 255, 0}}
	for n := range 40 {
		list = append(list, noise(uint32(n)+1, n), bytes.Repeat([]byte{byte(n * 6)}, n))
	}
	for total := 65518; total < 65523; total++ {
		list = append(list, totalling(total, 0))
	}
	return list
}

// P2.3: sealed bytes of which one is changed, in any way, are refused, the checksum's bytes too.
func TestOneByteChanged(t *testing.T) {
	for _, b := range bodies() {
		sealed := sum.Seal(b)
		for i := range sealed {
			for change := 1; change < 256; change += 1 + len(b)/50 {
				damaged := slices.Clone(sealed)
				damaged[i] += byte(change)
				if !refused(damaged) {
					t.Fatalf("%d sealed bytes, changed by %d at %d, are taken", len(b), change, i)
				}
			}
		}
	}
}

// P2.3: sealed bytes of which two different neighbours are swapped are refused.
func TestNeighboursSwapped(t *testing.T) {
	list := bodies()
	texts([]byte{0, 1, 128, 255}, 4, func(b []byte) { list = append(list, b) })
	for _, b := range list {
		sealed := sum.Seal(b)
		for i := 1; i < len(b); i++ {
			damaged := slices.Clone(sealed)
			damaged[i-1], damaged[i] = damaged[i], damaged[i-1]
			if same := b[i-1] == b[i]; refused(damaged) == same {
				t.Fatalf("%d sealed bytes with those at %d and %d swapped: equal %v", len(b), i-1, i, same)
			}
		}
	}
}

// P2.3, for bytes longer than the modulus: near both ends, and where the high half begins anew.
func TestLongBytesDamaged(t *testing.T) {
	for _, b := range [][]byte{noise(3, 70000), make([]byte, 70000), bytes.Repeat([]byte{255, 254}, 35000)} {
		sealed := sum.Seal(b)
		for _, i := range []int{0, 1, 4478, 4479, 4480, 35000, 65520, 65521, 69999, 70000, 70003} {
			for _, change := range []byte{1, 2, 128, 254, 255} {
				damaged := slices.Clone(sealed)
				damaged[i] += change
				if !refused(damaged) {
					t.Errorf("long bytes, changed by %d at %d, are taken", change, i)
				}
			}
			if i == 0 || i >= len(b) || b[i-1] == b[i] {
				continue
			}
			damaged := slices.Clone(sealed)
			damaged[i-1], damaged[i] = damaged[i], damaged[i-1]
			if !refused(damaged) {
				t.Errorf("long bytes with those at %d and %d swapped are taken", i-1, i)
			}
		}
	}
}

// P1, P2: every call ends without a panic for bytes of any kind, and answers the same again.
func TestNoise(t *testing.T) {
	for seed := range uint32(2000) {
		b := noise(seed, int(seed%300))
		first, e := sum.Open(b)
		second, f := sum.Open(slices.Clone(b))
		if e != f || !bytes.Equal(first, second) {
			t.Fatalf("Open of noise %d differs", seed)
		}
		if len(b) >= 4 && (e == api.OK) != bytes.Equal(sum.Seal(b[:len(b)-4]), b) {
			t.Fatalf("Open of noise %d: %d", seed, e)
		}
		if sum.Sum(b) != sum.Sum(slices.Clone(b)) || !bytes.Equal(sum.Seal(b), sum.Seal(b)) {
			t.Fatalf("Sum or Seal of noise %d differs", seed)
		}
		s, n, out := seed*2654435761, int(seed)*1000003-1e9, byte(seed)
		if sum.Roll(s, n, out, out+1) != sum.Roll(s, n, out, out+1) {
			t.Fatalf("Roll of noise %d differs", seed)
		}
	}
}
