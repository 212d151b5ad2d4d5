package span_test

import (
	"bytes"
	"math/bits"
	"testing"

	"wardship/api"
	"wardship/span"
	"wardship/vec"
)

// edges is numbers at which something changes.
func edges() []uint32 {
	return []uint32{0, 1, 255, 256, 1 << 16, 1 << 20, 1<<31 - 1, 1 << 31, most - 1, most}
}

// vectors is vectors of all shapes: small ones, ones with an edge at the first replica or the last, and full ones.
func vectors() []api.Vec {
	var all []api.Vec
	for _, n := range edges() {
		var same, rising api.Vec
		for i := range same {
			same[i] = n
			rising[i] = n - n%8 + uint32(i)
		}
		all = append(all, same, rising, api.Vec{n}, api.Vec{7: n}, api.Vec{3: n, 4: most - n}, api.Vec{0: n, 7: 2}, api.Vec{0: 2, 7: n})
	}
	for a := range uint32(3) {
		for b := range uint32(3) {
			all = append(all, api.Vec{a, b}, api.Vec{6: a, 7: b}, api.Vec{0: a, 7: b})
		}
	}
	return all
}

// P7.2, P7.3: two vectors compare as their bytes do, whatever the base is.
func TestOrderIsThatOfTheVectors(t *testing.T) {
	all := vectors()
	for _, base := range all {
		var shrunk [][]byte
		for _, v := range all {
			shrunk = append(shrunk, span.Shrink(v, base))
		}
		for i, a := range shrunk {
			for k, b := range shrunk {
				want := vec.Order(all[i], all[k])
				if got, e := span.Order(a, b); got != want || e != api.OK {
					t.Fatalf("Order of the bytes of %v and %v relative to %v = %d, %d, want %d", all[i], all[k], base, got, e, want)
				}
			}
		}
	}
}

// P7.3: bytes that are brought to another base compare as before.
func TestOrderAfterRebase(t *testing.T) {
	all := vectors()
	for i, a := range all {
		for k, b := range all {
			base, next := all[(i+k)%len(all)], all[(i*5+k*11+1)%len(all)]
			left, e := span.Rebase(span.Shrink(a, base), base, next)
			right, f := span.Rebase(span.Shrink(b, base), base, next)
			if got, g := span.Order(left, right); got != vec.Order(a, b) || e != api.OK || f != api.OK || g != api.OK {
				t.Fatalf("Order of %v and %v brought from %v to %v = %d; %d, %d, %d", a, b, base, next, got, e, f, g)
			}
		}
	}
}

// P7.2: of bytes that differ at one index, whichever it is, the lesser is Before; a second index the other way round makes them Apart.
func TestOrderByEachIndex(t *testing.T) {
	base := api.Vec{4, 4, 4, 4, 4, 4, 4, 4}
	for _, n := range []uint32{0, 3, 4, 5, most - 1} {
		same := api.Vec{n, n, n, n, n, n, n, n}
		isOrder(t, span.Shrink(same, base), span.Shrink(same, base), vec.Same)
		for i := range same {
			more := same
			more[i]++
			isOrder(t, span.Shrink(same, base), span.Shrink(more, base), vec.Before)
			isOrder(t, span.Shrink(more, base), span.Shrink(same, base), vec.After)
			for k := range same {
				if k != i {
					other := same
					other[k]++
					isOrder(t, span.Shrink(more, base), span.Shrink(other, base), vec.Apart)
				}
			}
		}
	}
}

// isOrder checks that Order finds no error, and what it finds.
func isOrder(t *testing.T, a, b []byte, want int) {
	t.Helper()
	if got, e := span.Order(a, b); got != want || e != api.OK {
		t.Errorf("Order(%v, %v) = %d, %d, want %d", a, b, got, e, want)
	}
}

// rising is bytes that name one index at most, with differences from the least to the greatest; no base can have both the first one and the last.
func rising(i int) [][]byte {
	var all [][]byte
	known := sizes()
	for k := len(known) - 1; k >= 0; k-- {
		all = append(all, append([]byte{0, 1 << i}, known[k].b...))
	}
	all = append(all, []byte{0, 0})
	for _, s := range known {
		all = append(all, append([]byte{1 << i, 0}, s.b...))
	}
	return all
}

// P7.2: bytes compare by the differences that they tell, also where no one base can have both.
func TestOrderWithoutABase(t *testing.T) {
	for i := range 8 {
		all := rising(i)
		for k, a := range all {
			for m, b := range all {
				switch {
				case k < m:
					isOrder(t, a, b, vec.Before)
				case k > m:
					isOrder(t, a, b, vec.After)
				default:
					isOrder(t, a, b, vec.Same)
				}
			}
		}
	}
	for _, c := range []struct {
		a, b []byte
		want int
	}{
		{[]byte{0, 1, 4, 255, 255, 255, 255}, []byte{1, 0, 4, 255, 255, 255, 255}, vec.Before},
		{[]byte{128, 0, 4, 255, 255, 255, 255}, []byte{0, 128, 4, 255, 255, 255, 255}, vec.After},
		{[]byte{1, 128, 4, 255, 255, 255, 255, 4, 255, 255, 255, 255}, []byte{128, 1, 4, 255, 255, 255, 255, 4, 255, 255, 255, 255}, vec.Apart},
		{[]byte{0, 129, 4, 255, 255, 255, 255, 4, 255, 255, 255, 255}, []byte{129, 0, 4, 255, 255, 255, 255, 4, 255, 255, 255, 255}, vec.Before},
		{[]byte{1, 0, 4, 255, 255, 255, 255}, []byte{2, 1, 1, 1, 4, 255, 255, 255, 255}, vec.Apart},
		{append([]byte{0, 255}, bytes.Repeat([]byte{4, 255, 255, 255, 255}, 8)...), append([]byte{255, 0}, bytes.Repeat([]byte{4, 255, 255, 255, 255}, 8)...), vec.Before},
		// the differences would be equal if they were counted round
		{[]byte{0, 1, 1, 1}, []byte{1, 0, 4, 255, 255, 255, 255}, vec.Before},
		{[]byte{1, 0, 1, 1}, []byte{0, 1, 4, 255, 255, 255, 255}, vec.After},
		{[]byte{1, 0, 4, 128, 0, 0, 0}, []byte{0, 1, 4, 128, 0, 0, 0}, vec.After},
	} {
		isOrder(t, c.a, c.b, c.want)
	}
}

// P7.2: pairs of bytes with differences of all kinds at two indices, whether or not a base can have both.
func TestOrderOfPairs(t *testing.T) {
	var all [][]byte
	steps := []int64{-most, -256, -1, 0, 1, 256, most}
	for _, first := range steps {
		for _, second := range steps {
			all = append(all, told([8]int64{0: first, 7: second}), told([8]int64{3: first, 4: second}))
		}
	}
	for _, a := range all {
		for _, b := range all {
			orders(t, a, b)
		}
	}
}

// told is the bytes that tell of the differences, each as the one of two bases' vectors that is greater or less.
func told(d [8]int64) []byte {
	var v, base api.Vec
	for i, n := range d {
		if n > 0 {
			v[i] = uint32(n)
		} else {
			base[i] = uint32(-n)
		}
	}
	return span.Shrink(v, base)
}

// P7.3: the bytes are two, and for each index at which the vector differs one more than its difference has; six at most.
func TestFewBytes(t *testing.T) {
	for _, v := range vectors() {
		for _, base := range vectors() {
			want, apart := 2, 0
			for i := range v {
				if n := max(v[i], base[i]) - min(v[i], base[i]); n > 0 {
					want += 1 + (bits.Len32(n)+7)/8
					apart++
				}
			}
			if got := len(span.Shrink(v, base)); got != want || got > 2+6*apart {
				t.Fatalf("%v relative to %v has %d bytes, want %d", v, base, got, want)
			}
		}
	}
}

// P7.2, P7.3: relative to one base, each vector has bytes of its own, from which it grows again.
func TestBytesAreOfOneVector(t *testing.T) {
	all := vectors()
	for _, base := range all {
		seen := map[string]api.Vec{}
		for _, v := range all {
			b := span.Shrink(v, base)
			if other, ok := seen[string(b)]; ok && other != v {
				t.Fatalf("%v and %v have the same bytes relative to %v", v, other, base)
			}
			seen[string(b)] = v
			grows(t, b, base, v, api.OK)
		}
	}
}
