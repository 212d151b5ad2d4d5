package device_test

import (
	"math"
	"slices"
	"testing"

	"wardship/api"
)

// The chapter's example.
func TestExample(t *testing.T) {
	d := create(t, 2)
	write(t, d, 1, filled('x'))
	barrier(t, d)
	write(t, d, 1, filled('y'))
	d.Cut(api.Choice{Torn: 0, Half: 2})
	counts(t, d, true, 0, 3)
	on(t, d)
	reads(t, d, 1, mixed(2, 'y', 'x'))
	reads(t, d, 0, make([]byte, 256))
}

// P3.2: of the torn write the first Half bytes stay, from none to all.
func TestHalf(t *testing.T) {
	for half, want := range map[int]int{
		math.MinInt: 0, -256: 0, -1: 0, 0: 0, 1: 1, 2: 2, 128: 128, 254: 254, 255: 255,
		256: 256, 257: 256, 512: 256, 1 << 32: 256, math.MaxInt: 256,
	} {
		d := create(t, 1)
		write(t, d, 0, filled('x'))
		barrier(t, d)
		write(t, d, 0, filled('y'))
		d.Cut(api.Choice{Torn: 0, Half: half})
		on(t, d)
		reads(t, d, 0, mixed(want, 'y', 'x'))
	}
}

// P3.2: a torn write that is in Kept, too, stays whole.
func TestTornAndKept(t *testing.T) {
	for _, half := range []int{-1, 0, 1, 255, 256, 257} {
		for _, kept := range [][]int{{1}, {1, 1}, {0, 1}, {7, 1, -1}} {
			d := create(t, 2)
			write(t, d, 0, filled('a'))
			write(t, d, 1, filled('b'))
			d.Cut(api.Choice{Kept: kept, Torn: 1, Half: half})
			on(t, d)
			reads(t, d, 1, filled('b'))
		}
	}
}

// P3.2: numbers that no loose write has, and those that come twice, or in any order.
func TestKeptNumbers(t *testing.T) {
	for _, c := range []struct {
		kept []int
		want string
	}{
		{nil, "..."},
		{[]int{}, "..."},
		{[]int{0}, "a.."},
		{[]int{1}, ".b."},
		{[]int{2}, "..c"},
		{[]int{2, 0}, "a.c"},
		{[]int{2, 1, 0}, "abc"},
		{[]int{1, 1, 1}, ".b."},
		{[]int{0, 2, 0, 2}, "a.c"},
		{[]int{3, 4, 1 << 40, math.MaxInt}, "..."},
		{[]int{-1, -2, -3, math.MinInt}, "..."},
		{[]int{-1, 3, 1, 4, -3}, ".b."},
	} {
		for _, torn := range []int{-1, -3, 3, math.MinInt, math.MaxInt} {
			d := create(t, 3)
			for i := range 3 {
				write(t, d, i, filled("abc"[i]))
			}
			d.Cut(api.Choice{Kept: c.kept, Torn: torn, Half: 256})
			on(t, d)
			for i := range 3 {
				want := c.want[i]
				if want == '.' {
					want = 0
				}
				reads(t, d, i, filled(want))
			}
		}
	}
}

// P3.2: of several loose writes to one sector, each stays or goes for itself, in their order, whatever the order of Kept.
func TestSeveralWritesToOneSector(t *testing.T) {
	for _, c := range []struct {
		choice api.Choice
		want   []byte
	}{
		{api.Choice{Torn: -1}, filled('x')},
		{api.Choice{Kept: []int{0}, Torn: -1}, filled('a')},
		{api.Choice{Kept: []int{1}, Torn: -1}, filled('b')},
		{api.Choice{Kept: []int{2, 0}, Torn: -1}, filled('c')},
		{api.Choice{Kept: []int{1, 0}, Torn: -1}, filled('b')},
		{api.Choice{Kept: []int{0}, Torn: 1, Half: 10}, mixed(10, 'b', 'a')},
		{api.Choice{Kept: []int{1}, Torn: 0, Half: 10}, filled('b')},
		{api.Choice{Kept: []int{0}, Torn: 2, Half: 255}, mixed(255, 'c', 'a')},
		{api.Choice{Torn: 1, Half: 3}, mixed(3, 'b', 'x')},
		{api.Choice{Kept: []int{0, 1, 2}, Torn: 0, Half: 3}, filled('c')},
	} {
		d := create(t, 2)
		write(t, d, 1, filled('x'))
		barrier(t, d)
		for _, b := range []byte("abc") {
			write(t, d, 1, filled(b))
		}
		d.Cut(c.choice)
		on(t, d)
		reads(t, d, 1, c.want)
		reads(t, d, 0, make([]byte, 256))
	}
}

// expectCut is what the chapter says of a cut, told anew: the bytes of each sector one by one.
func expectCut(sure [][]byte, at []int, written [][]byte, c api.Choice) [][]byte {
	var after [][]byte
	for i := range sure {
		b := slices.Clone(sure[i])
		for n := range at {
			for k := range b {
				if at[n] == i && (slices.Contains(c.Kept, n) || n == c.Torn && k < c.Half) {
					b[k] = written[n][k]
				}
			}
		}
		after = append(after, b)
	}
	return after
}

// P3.2: all choices for four loose writes to two sectors.
func TestAllChoices(t *testing.T) {
	at := []int{0, 1, 0, 1}
	sure := [][]byte{noise(91), noise(92)}
	written := [][]byte{noise(1), noise(2), noise(3), noise(4)}
	for set := range 1 << len(at) {
		var kept []int
		for n := range at {
			if set>>n&1 == 1 {
				kept = append(kept, n)
			}
		}
		for torn := -1; torn <= len(at); torn++ {
			for _, half := range []int{-1, 0, 1, 100, 255, 256, 257} {
				d := create(t, 2)
				for i, b := range sure {
					write(t, d, i, b)
				}
				barrier(t, d)
				for n, b := range written {
					write(t, d, at[n], b)
				}
				c := api.Choice{Kept: kept, Torn: torn, Half: half}
				d.Cut(c)
				counts(t, d, true, 0, 7)
				on(t, d)
				for i, want := range expectCut(sure, at, written, c) {
					reads(t, d, i, want)
				}
			}
		}
	}
}

// P3.2: the numbers of the loose writes begin anew behind a barrier, and behind a cut; refused writes have none.
func TestNumbersBeginAnew(t *testing.T) {
	d := create(t, 4)
	write(t, d, 0, filled('a'))
	barrier(t, d)
	d.Write(4, filled('z'))
	d.Write(1, nil)
	write(t, d, 1, filled('b'))
	write(t, d, 2, filled('c'))
	d.Cut(api.Choice{Kept: []int{0}, Torn: -1})
	on(t, d)
	write(t, d, 3, filled('d'))
	write(t, d, 0, filled('e'))
	counts(t, d, false, 2, 6)
	d.Cut(api.Choice{Kept: []int{0}, Torn: 1, Half: 1})
	on(t, d)
	reads(t, d, 0, mixed(1, 'e', 'a'))
	reads(t, d, 1, filled('b'))
	reads(t, d, 2, make([]byte, 256))
	reads(t, d, 3, filled('d'))
}

// P3.2: what a cut left is durable: another cut, and a barrier, change nothing of it.
func TestWhatACutLeftIsDurable(t *testing.T) {
	d := create(t, 2)
	write(t, d, 0, filled('a'))
	write(t, d, 1, filled('b'))
	d.Cut(api.Choice{Kept: []int{0}, Torn: 1, Half: 7})
	for n := range 3 {
		on(t, d)
		reads(t, d, 0, filled('a'))
		reads(t, d, 1, mixed(7, 'b', 0))
		counts(t, d, false, 0, 2+n)
		d.Cut(api.Choice{Kept: []int{1}, Torn: 0, Half: 100})
		on(t, d)
		barrier(t, d)
		d.Cut(none())
	}
}

// P3.2: a cut while the power is off does nothing, and On tells whether it was off.
func TestCutTwice(t *testing.T) {
	d := create(t, 1)
	if d.On() {
		t.Error("it was off at first")
	}
	write(t, d, 0, filled('a'))
	d.Cut(none())
	d.Cut(api.Choice{Kept: []int{0}, Torn: 0, Half: 256})
	counts(t, d, true, 0, 1)
	on(t, d)
	if d.On() || d.On() {
		t.Error("it was off, though it was on")
	}
	reads(t, d, 0, make([]byte, 256))
	counts(t, d, false, 0, 1)
	if d.Size() != 1 {
		t.Errorf("Size() = %d", d.Size())
	}
}

// P3.2: while the power is off, Size, Off, Loose and Changes answer, and the calls that are refused change nothing.
func TestWhileOff(t *testing.T) {
	d := create(t, 3)
	write(t, d, 2, filled('a'))
	barrier(t, d)
	write(t, d, 2, filled('b'))
	d.Cut(none())
	for range 2 {
		if e := d.Write(2, filled('c')); e != api.ErrDown {
			t.Errorf("Write = %d", e)
		}
		if e := d.Barrier(); e != api.ErrDown {
			t.Errorf("Barrier = %d", e)
		}
		if b, e := d.Read(2); len(b) != 0 || e != api.ErrDown {
			t.Errorf("Read = %v, %d", b, e)
		}
		counts(t, d, true, 0, 3)
		if d.Size() != 3 {
			t.Errorf("Size() = %d", d.Size())
		}
	}
	on(t, d)
	reads(t, d, 2, filled('a'))
}
