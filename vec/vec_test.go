package vec_test

import (
	"math"
	"math/bits"
	"testing"

	"wardship/api"
	"wardship/vec"
)

// farReps is numbers that no replica has: next to the ones that there are, and far beyond, where a narrower integer would wrap round into these.
func farReps() []int {
	return []int{0, 9, -1, -7, -8, 10, 256, 257, 1<<16 + 1, 1<<(bits.UintSize/2) + 1, -1<<(bits.UintSize/2) + 1, math.MaxInt, math.MaxInt - 7, math.MinInt, math.MinInt + 1}
}

// edges is numbers of events at which something changes.
func edges() []uint32 {
	return []uint32{0, 1, 2, api.MaxSeq - 1, api.MaxSeq, api.MaxSeq + 1, math.MaxUint32 - 1, math.MaxUint32}
}

// only is the vector with a number for one replica.
func only(rep int, n uint32) api.Vec {
	var v api.Vec
	v[rep-1] = n
	return v
}

// small is all vectors of numbers below most at the replicas 1, 4 and 8.
func small(most uint32) []api.Vec {
	var all []api.Vec
	for a := range most {
		for b := range most {
			for c := range most {
				all = append(all, api.Vec{0: a, 3: b, 7: c})
			}
		}
	}
	return all
}

// mixed is vectors of all shapes: small ones, ones with an edge at one replica or two, and ones that are full.
func mixed() []api.Vec {
	all := small(3)
	for _, n := range edges() {
		var same, rising api.Vec
		for i := range same {
			same[i] = n
			rising[i] = n - n%8 + uint32(i)
			all = append(all, only(i+1, n), api.Vec{0: n, 7: uint32(i)}, api.Vec{0: uint32(i), 7: n})
		}
		all = append(all, same, rising)
	}
	return all
}

// P6.1: Get is the replica's number, and 0 for every number that no replica has.
func TestGet(t *testing.T) {
	v := api.Vec{11, 12, 13, 14, 15, 16, 17, 18}
	for rep := 1; rep <= 8; rep++ {
		if got := vec.Get(v, rep); got != uint32(10+rep) {
			t.Errorf("Get(%v, %d) = %d", v, rep, got)
		}
		for _, n := range edges() {
			if got := vec.Get(only(rep, n), rep); got != n {
				t.Errorf("Get = %d, want %d", got, n)
			}
		}
	}
	for _, rep := range farReps() {
		if got := vec.Get(v, rep); got != 0 {
			t.Errorf("Get(%v, %d) = %d, want 0", v, rep, got)
		}
	}
}

// P6.1: Next is one more of one replica, all other numbers unchanged, up to MaxSeq.
func TestNext(t *testing.T) {
	for _, n := range edges() {
		for rep := 1; rep <= 8; rep++ {
			v := api.Vec{5, 0, math.MaxUint32, api.MaxSeq, 6, 7, 8, 9}
			v[rep-1] = n
			want, wantErr := v, api.OK
			want[rep-1] = n + 1
			if n >= 1048576 {
				want, wantErr = api.Vec{}, api.ErrMax
			}
			if got, e := vec.Next(v, rep); got != want || e != wantErr {
				t.Errorf("Next(%v, %d) = %v, %d, want %v, %d", v, rep, got, e, want, wantErr)
			}
		}
	}
}

// P6.1: Next refuses what is no replica, also where all numbers are at their end; beside the error stands no vector.
func TestNextOfNoReplica(t *testing.T) {
	for _, rep := range farReps() {
		for _, v := range mixed() {
			if got, e := vec.Next(v, rep); got != (api.Vec{}) || e != api.ErrArg {
				t.Fatalf("Next(%v, %d) = %v, %d, want none, ErrArg", v, rep, got, e)
			}
		}
	}
}

// P6.1: Next goes from no event on up to MaxSeq events, one by one, and not beyond.
func TestNextUpToTheEnd(t *testing.T) {
	var v api.Vec
	for n := range uint32(1 << 20) {
		next, e := vec.Next(v, 8)
		if next != only(8, n+1) || e != api.OK {
			t.Fatalf("Next(%v, 8) = %v, %d", v, next, e)
		}
		v = next
	}
	if got, e := vec.Next(v, 8); got != (api.Vec{}) || e != api.ErrMax {
		t.Errorf("Next(%v, 8) = %v, %d, want ErrMax", v, got, e)
	}
}

// P6.1: a vector contains the events of a replica from 1 up to its number, and no others.
func TestHas(t *testing.T) {
	for rep := 1; rep <= 8; rep++ {
		for _, n := range edges() {
			v := only(rep, n)
			for _, seq := range append(edges(), n-1, n, n+1) {
				want := seq >= 1 && seq <= n
				if got := vec.Has(v, api.ID{Rep: rep, Seq: seq}); got != want {
					t.Errorf("Has(%v, %d.%d) = %v", v, rep, seq, got)
				}
				if rep < 8 && vec.Has(v, api.ID{Rep: rep + 1, Seq: seq}) || rep > 1 && vec.Has(v, api.ID{Rep: rep - 1, Seq: seq}) {
					t.Errorf("%v has an event of a replica next to %d", v, rep)
				}
			}
		}
	}
}

// P6.1: no vector has an event of what is no replica, or with the Seq 0.
func TestHasNot(t *testing.T) {
	all := api.Vec{1, math.MaxUint32, math.MaxUint32, 4, 5, 6, 7, math.MaxUint32}
	for rep := 1; rep <= 8; rep++ {
		if vec.Has(all, api.ID{Rep: rep}) || vec.Has(api.Vec{}, api.ID{Rep: rep}) {
			t.Errorf("a vector has %d.0", rep)
		}
	}
	for _, rep := range farReps() {
		for _, seq := range edges() {
			if vec.Has(all, api.ID{Rep: rep, Seq: seq}) || vec.Has(api.Vec{}, api.ID{Rep: rep, Seq: seq}) {
				t.Errorf("a vector has %d.%d", rep, seq)
			}
		}
	}
}

// P6.1: With raises the number of the event's replica, never lowers it, and leaves all others.
func TestWith(t *testing.T) {
	for rep := 1; rep <= 8; rep++ {
		for _, n := range edges() {
			for _, seq := range append(edges(), n-1, n, n+1) {
				v := api.Vec{5, 0, math.MaxUint32, api.MaxSeq, 6, 7, 8, 9}
				v[rep-1] = n
				want := v
				if n < seq {
					want[rep-1] = seq
				}
				if got := vec.With(v, api.ID{Rep: rep, Seq: seq}); got != want {
					t.Errorf("With(%v, %d.%d) = %v, want %v", v, rep, seq, got, want)
				}
			}
		}
	}
}

// P6.1: With leaves the vector as it is if the event's replica is none.
func TestWithOfNoReplica(t *testing.T) {
	for _, rep := range farReps() {
		for _, v := range mixed() {
			for _, seq := range edges() {
				if got := vec.With(v, api.ID{Rep: rep, Seq: seq}); got != v {
					t.Fatalf("With(%v, %d.%d) = %v", v, rep, seq, got)
				}
			}
		}
	}
}

// P6.1: event numbers are in order by Seq, and by Rep where Seq is equal, whether or not there is such a replica.
func TestLess(t *testing.T) {
	var rising []api.ID
	for _, seq := range edges() {
		for _, rep := range []int{math.MinInt, -2, -1, 0, 1, 2, 7, 8, 9, 256, math.MaxInt} {
			rising = append(rising, api.ID{Rep: rep, Seq: seq})
		}
	}
	for i, a := range rising {
		for k, b := range rising {
			if got := vec.Less(a, b); got != (i < k) {
				t.Errorf("Less(%d.%d, %d.%d) = %v", a.Rep, a.Seq, b.Rep, b.Seq, got)
			}
		}
	}
}

// P6.1: Total is the sum of all numbers, also where it doesn't fit in 32 bits.
func TestTotal(t *testing.T) {
	for _, c := range []struct {
		v    api.Vec
		want uint64
	}{
		{api.Vec{}, 0},
		{api.Vec{3, 0, 0, 20}, 23},
		{api.Vec{1, 2, 3, 4, 5, 6, 7, 8}, 36},
		{api.Vec{math.MaxUint32}, 4294967295},
		{api.Vec{math.MaxUint32, 1}, 4294967296},
		{api.Vec{0: 1 << 31, 7: 1 << 31}, 4294967296},
		{api.Vec{0: 1, 7: math.MaxUint32}, 4294967296},
		{api.Vec{1 << 20, 1 << 20, 1 << 20, 1 << 20, 1 << 20, 1 << 20, 1 << 20, 1 << 20}, 8388608},
		{api.Vec{math.MaxUint32, math.MaxUint32, math.MaxUint32, math.MaxUint32, math.MaxUint32, math.MaxUint32, math.MaxUint32, math.MaxUint32}, 34359738360},
	} {
		if got := vec.Total(c.v); got != c.want {
			t.Errorf("Total(%v) = %d, want %d", c.v, got, c.want)
		}
	}
	for rep := 1; rep <= 8; rep++ {
		for _, n := range edges() {
			if got := vec.Total(only(rep, n)); got != uint64(n) {
				t.Errorf("Total = %d, want %d", got, n)
			}
		}
	}
}
