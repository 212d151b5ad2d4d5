package span_test

import (
	"bytes"
	"slices"
	"testing"

	"wardship/api"
	"wardship/span"
	"wardship/vec"
)

// expect is what the chapter says of reading b, told anew, by places in b.
func expect(b []byte) ([8]int64, api.Errno) {
	var told, none [8]int64
	if len(b) < 2 {
		return none, api.ErrCut
	}
	for i := range 8 {
		if b[0]>>i%2 == 1 && b[1]>>i%2 == 1 {
			return none, api.ErrForm
		}
	}
	at := 2
	for i := range 8 {
		if b[0]>>i%2+b[1]>>i%2 == 0 {
			continue
		}
		if at == len(b) || at+1+int(b[at]) > len(b) {
			return none, api.ErrCut
		}
		digits := b[at+1 : at+1+int(b[at])]
		// The numbers from 1 to 2^32 - 1 are those of one to four digits that don't begin with 0.
		if len(digits) < 1 || len(digits) > 4 || digits[0] == 0 {
			return none, api.ErrForm
		}
		for _, digit := range digits {
			told[i] = told[i]*256 + int64(digit)
		}
		if b[1]>>i%2 == 1 {
			told[i] *= -1
		}
		at += 1 + len(digits)
	}
	if at < len(b) {
		return none, api.ErrLong
	}
	return told, api.OK
}

// expectGrow is what the chapter says of Grow(b, base).
func expectGrow(b []byte, base api.Vec) (api.Vec, api.Errno) {
	told, e := expect(b)
	if e != api.OK {
		return api.Vec{}, e
	}
	var v api.Vec
	for i, n := range base {
		v[i] = uint32(int64(n) + told[i])
		if int64(v[i]) != int64(n)+told[i] {
			return api.Vec{}, api.ErrForm
		}
	}
	return v, api.OK
}

// expectOrder is what the chapter says of Order(a, b).
func expectOrder(a, b []byte) (int, api.Errno) {
	here, e := expect(a)
	there, f := expect(b)
	if e != api.OK {
		return 0, e
	}
	if f != api.OK {
		return 0, f
	}
	var less, greater bool
	for i := range here {
		less = less || here[i] < there[i]
		greater = greater || here[i] > there[i]
	}
	switch {
	case less && greater:
		return vec.Apart, api.OK
	case less:
		return vec.Before, api.OK
	case greater:
		return vec.After, api.OK
	}
	return vec.Same, api.OK
}

// reads checks what all three functions that read b say of it, with bytes beside it that are in order.
func reads(t *testing.T, b []byte) {
	t.Helper()
	for _, base := range []api.Vec{{}, {700, 700, 700, 700, 700, 700, 700, 700}, {most, most, most, most, most, most, most, most}, {1, most, 0, 2, 1 << 31, 1, 0, 1 << 24}} {
		want, wantErr := expectGrow(b, base)
		grows(t, b, base, want, wantErr)
		var bytesOf []byte
		if wantErr == api.OK {
			bytesOf = span.Shrink(want, api.Vec{4, 5, 6})
			if again := span.Shrink(want, base); !bytes.Equal(again, b) {
				t.Errorf("%v has the bytes %v and %v relative to %v", want, b, again, base)
			}
		}
		if got, e := span.Rebase(b, base, api.Vec{4, 5, 6}); !bytes.Equal(got, bytesOf) || e != wantErr {
			t.Errorf("Rebase(%v, %v, ..) = %v, %d, want %v, %d", b, base, got, e, bytesOf, wantErr)
		}
	}
	for _, good := range [][]byte{{0, 0}, {1, 0, 1, 1}, {0, 129, 4, 255, 255, 255, 255, 2, 1, 0}} {
		orders(t, b, good)
		orders(t, good, b)
	}
	orders(t, b, b)
}

// orders checks what Order says.
func orders(t *testing.T, a, b []byte) {
	t.Helper()
	want, wantErr := expectOrder(a, b)
	if got, e := span.Order(a, b); got != want || e != wantErr {
		t.Errorf("Order(%v, %v) = %d, %d, want %d, %d", a, b, got, e, want, wantErr)
	}
}

// wrong is bytes that can't be read, and the error of each.
func wrong() []struct {
	b []byte
	e api.Errno
} {
	return []struct {
		b []byte
		e api.Errno
	}{
		// fewer than two bytes
		{nil, api.ErrCut},
		{[]byte{}, api.ErrCut},
		{[]byte{0}, api.ErrCut},
		{[]byte{1}, api.ErrCut},
		{[]byte{255}, api.ErrCut},
		// an index that both of the first bytes name
		{[]byte{1, 1}, api.ErrForm},
		{[]byte{128, 128}, api.ErrForm},
		{[]byte{255, 255}, api.ErrForm},
		{[]byte{255, 16}, api.ErrForm},
		{[]byte{8, 255}, api.ErrForm},
		{[]byte{1, 1, 1, 1}, api.ErrForm},
		{[]byte{1, 1, 1, 1, 1, 1}, api.ErrForm},
		{[]byte{3, 2, 1, 1, 1, 1}, api.ErrForm},
		{[]byte{129, 128, 1, 1, 1, 1}, api.ErrForm},
		// the byte with the number of bytes is missing
		{[]byte{1, 0}, api.ErrCut},
		{[]byte{0, 1}, api.ErrCut},
		{[]byte{128, 0}, api.ErrCut},
		{[]byte{0, 128}, api.ErrCut},
		{[]byte{255, 0}, api.ErrCut},
		{[]byte{3, 0, 1, 1}, api.ErrCut},
		{[]byte{1, 2, 1, 1}, api.ErrCut},
		{[]byte{2, 1, 1, 1}, api.ErrCut},
		{[]byte{129, 0, 4, 1, 0, 0, 0}, api.ErrCut},
		// bytes of a difference are missing
		{[]byte{1, 0, 1}, api.ErrCut},
		{[]byte{0, 128, 1}, api.ErrCut},
		{[]byte{1, 0, 2, 1}, api.ErrCut},
		{[]byte{1, 0, 4, 1, 1, 1}, api.ErrCut},
		{[]byte{1, 0, 5, 1, 1, 1, 1}, api.ErrCut},
		{[]byte{1, 0, 9, 1, 1, 1, 1, 1, 1, 1, 1}, api.ErrCut},
		{append([]byte{1, 0, 255}, make([]byte, 254)...), api.ErrCut},
		{[]byte{1, 128, 1, 1, 1}, api.ErrCut},
		{[]byte{1, 128, 1, 1, 2, 1}, api.ErrCut},
		// a difference of no bytes, which is 0
		{[]byte{1, 0, 0}, api.ErrForm},
		{[]byte{0, 1, 0}, api.ErrForm},
		{[]byte{128, 0, 0}, api.ErrForm},
		{[]byte{0, 128, 0}, api.ErrForm},
		{[]byte{3, 0, 1, 1, 0}, api.ErrForm},
		{[]byte{1, 2, 1, 1, 0}, api.ErrForm},
		// a leading zero, and a 0 that is written
		{[]byte{1, 0, 1, 0}, api.ErrForm},
		{[]byte{0, 128, 1, 0}, api.ErrForm},
		{[]byte{1, 0, 2, 0, 0}, api.ErrForm},
		{[]byte{1, 0, 2, 0, 1}, api.ErrForm},
		{[]byte{1, 0, 4, 0, 255, 255, 255}, api.ErrForm},
		{[]byte{1, 0, 5, 0, 1, 1, 1, 1}, api.ErrForm},
		{[]byte{1, 0, 8, 0, 0, 0, 0, 0, 0, 0, 1}, api.ErrForm},
		{[]byte{0, 129, 1, 1, 2, 0, 1}, api.ErrForm},
		// greater than 2^32 - 1
		{[]byte{1, 0, 5, 1, 0, 0, 0, 0}, api.ErrForm},
		{[]byte{0, 1, 5, 1, 0, 0, 0, 0}, api.ErrForm},
		{[]byte{1, 0, 5, 1, 0, 0, 0, 1}, api.ErrForm},
		{[]byte{128, 0, 5, 1, 0, 0, 0, 1}, api.ErrForm},
		{[]byte{1, 0, 5, 255, 255, 255, 255, 255}, api.ErrForm},
		{[]byte{1, 0, 6, 1, 0, 0, 0, 0, 1}, api.ErrForm},
		{[]byte{0, 1, 8, 128, 0, 0, 0, 0, 0, 0, 0}, api.ErrForm},
		{[]byte{0, 1, 8, 255, 255, 255, 255, 255, 255, 255, 255}, api.ErrForm},
		{[]byte{1, 0, 8, 255, 255, 255, 255, 255, 255, 255, 255}, api.ErrForm},
		// more bytes than a number may have: of no form, though layer 1 calls them too long
		{[]byte{1, 0, 9, 1, 0, 0, 0, 0, 0, 0, 0, 0}, api.ErrForm},
		{[]byte{0, 1, 9, 1, 0, 0, 0, 0, 0, 0, 0, 1}, api.ErrForm},
		{[]byte{0, 128, 9, 0, 0, 0, 0, 0, 0, 0, 0, 1}, api.ErrForm},
		{append([]byte{1, 0, 255}, bytes.Repeat([]byte{1}, 255)...), api.ErrForm},
		{append([]byte{1, 0, 255}, make([]byte, 255)...), api.ErrForm},
		// bytes are left
		{[]byte{0, 0, 0}, api.ErrLong},
		{[]byte{0, 0, 1}, api.ErrLong},
		{[]byte{0, 0, 1, 1}, api.ErrLong},
		{make([]byte, 300), api.ErrLong},
		{[]byte{1, 0, 1, 1, 0}, api.ErrLong},
		{[]byte{0, 128, 1, 1, 0}, api.ErrLong},
		{[]byte{1, 0, 4, 255, 255, 255, 255, 255}, api.ErrLong},
		{[]byte{1, 2, 1, 1, 1, 1, 1, 1}, api.ErrLong},
		// both name an index, and something is missing, of no form, or left
		{[]byte{129, 128}, api.ErrForm},
		{[]byte{3, 2, 1}, api.ErrForm},
		{[]byte{3, 2, 9, 1}, api.ErrForm},
		{[]byte{1, 1, 0}, api.ErrForm},
		{[]byte{1, 1, 1, 1, 1, 1, 1}, api.ErrForm},
		{append([]byte{1, 1}, make([]byte, 300)...), api.ErrForm},
		// bytes are missing, and those that are there are of no form
		{[]byte{1, 0, 2, 0}, api.ErrCut},
		{[]byte{1, 0, 5, 0}, api.ErrCut},
		{[]byte{1, 0, 9, 0, 1}, api.ErrCut},
		{[]byte{1, 0, 255, 0}, api.ErrCut},
		{append([]byte{0, 1, 255}, bytes.Repeat([]byte{1}, 254)...), api.ErrCut},
		// a difference is of no form, and a later one is missing
		{[]byte{3, 0, 0}, api.ErrForm},
		{[]byte{3, 0, 1, 0}, api.ErrForm},
		{[]byte{1, 2, 0, 2, 1}, api.ErrForm},
		{[]byte{2, 1, 2, 0, 1}, api.ErrForm},
		{[]byte{129, 0, 5, 1, 0, 0, 0, 0}, api.ErrForm},
		{[]byte{129, 0, 9, 1, 0, 0, 0, 0, 0, 0, 0, 0, 2, 1}, api.ErrForm},
		// a difference is missing, and a later one would be of no form
		{[]byte{3, 0, 9, 1, 0}, api.ErrCut},
		{[]byte{129, 0, 3, 1, 0}, api.ErrCut},
		// a difference is of no form, and bytes are left
		{[]byte{1, 0, 0, 0}, api.ErrForm},
		{[]byte{1, 0, 0, 1, 1}, api.ErrForm},
		{[]byte{0, 1, 1, 0, 9}, api.ErrForm},
		{[]byte{0, 1, 5, 1, 0, 0, 0, 0, 9}, api.ErrForm},
		{[]byte{1, 0, 9, 1, 0, 0, 0, 0, 0, 0, 0, 0, 9}, api.ErrForm},
	}
}

// P7.2: bytes that can't be read, for Grow and Rebase with any bases, and for Order on either side; nothing stands beside the error.
func TestWrongBytes(t *testing.T) {
	for _, c := range wrong() {
		for _, base := range vectors() {
			grows(t, c.b, base, api.Vec{}, c.e)
			if got, e := span.Rebase(c.b, base, api.Vec{1, 2, 3}); len(got) != 0 || e != c.e {
				t.Errorf("Rebase(%v, %v, ..) = %v, %d, want none, %d", c.b, base, got, e, c.e)
			}
		}
		for _, good := range [][]byte{{0, 0}, {0, 255, 1, 1, 1, 1, 1, 1, 1, 1, 1, 1, 1, 1, 1, 1, 1, 1}, {128, 0, 1, 1}} {
			refuses(t, c.b, good, c.e)
			refuses(t, good, c.b, c.e)
		}
	}
}

// P7.2: where both sides of Order can't be read, the error of the first one counts.
func TestWrongBytesOnBothSides(t *testing.T) {
	for _, c := range wrong() {
		for _, d := range wrong() {
			refuses(t, c.b, d.b, c.e)
		}
	}
}

// refuses checks that Order returns an error.
func refuses(t *testing.T, a, b []byte, want api.Errno) {
	t.Helper()
	if got, e := span.Order(a, b); got != 0 || e != want {
		t.Errorf("Order(%v, %v) = %d, %d, want 0, %d", a, b, got, e, want)
	}
}

// P7.2: an error of reading comes ahead of a number that is too far, wherever that one stands.
func TestReadingComesFirst(t *testing.T) {
	for _, c := range []struct {
		b    []byte
		base api.Vec
		want api.Errno
	}{
		{[]byte{0, 1, 1, 1}, api.Vec{}, api.ErrForm},
		{[]byte{0, 1, 1, 1, 9}, api.Vec{}, api.ErrLong},
		{[]byte{0, 3, 1, 1}, api.Vec{}, api.ErrCut},
		{[]byte{0, 3, 1, 1, 2, 1}, api.Vec{}, api.ErrCut},
		{[]byte{128, 1, 1, 1}, api.Vec{}, api.ErrCut},
		{[]byte{1, 0, 1, 1}, api.Vec{most}, api.ErrForm},
		{[]byte{1, 0, 1, 1, 1, 1}, api.Vec{most}, api.ErrLong},
		{[]byte{1, 128, 1, 1}, api.Vec{most}, api.ErrCut},
		{[]byte{129, 0, 1, 1, 3, 1, 1}, api.Vec{most}, api.ErrCut},
		{[]byte{3, 0, 1, 1, 1, 1, 1}, api.Vec{most, most}, api.ErrLong},
	} {
		grows(t, c.b, c.base, api.Vec{}, c.want)
		if got, e := span.Rebase(c.b, c.base, c.base); len(got) != 0 || e != c.want {
			t.Errorf("Rebase(%v, %v, ..) = %v, %d, want none, %d", c.b, c.base, got, e, c.want)
		}
	}
}

// P7.2: all bytes of up to seven of some kinds.
func TestAllShortBytes(t *testing.T) {
	level := [][]byte{nil}
	reads(t, nil)
	for range 7 {
		var next [][]byte
		for _, b := range level {
			for _, c := range []byte{0, 1, 2, 130, 255} {
				next = append(next, append(slices.Clone(b), c))
			}
		}
		for _, b := range next {
			reads(t, b)
		}
		level = next
	}
}

// P7.2: each pair of the first two bytes, with one difference too few, just enough, and one byte too many behind it.
func TestEachPairOfFirstBytes(t *testing.T) {
	for greater := range 256 {
		for less := range 256 {
			b := []byte{byte(greater), byte(less)}
			for n := range byte(9) {
				reads(t, b)
				b = append(b, 1, n+1)
			}
		}
	}
}

// P7.2: each number of bytes of a difference, with one byte less, as many, and one more, whatever the first one is.
func TestEachNumberOfBytes(t *testing.T) {
	for count := range 256 {
		for _, first := range []byte{0, 1, 128, 255} {
			for there := max(count-1, 0); there <= count+1; there++ {
				body := append([]byte{first}, bytes.Repeat([]byte{7}, 255)...)
				reads(t, append([]byte{16, 0, byte(count)}, body[:there]...))
				reads(t, append([]byte{2, 128, 1, 9, byte(count)}, body[:there]...))
			}
		}
	}
}

// P7.2: bytes of vectors that are cut anywhere, that go on, and of which any one byte is another.
func TestChangedBytes(t *testing.T) {
	for _, b := range [][]byte{
		span.Shrink(api.Vec{}, api.Vec{}),
		span.Shrink(api.Vec{5, 3}, api.Vec{2, 4}),
		span.Shrink(api.Vec{300, 9, 70000, 9, 1 << 25, 9, 9, 1}, api.Vec{9, 300, 9, 70000, 9, 1 << 25, 9, 2}),
		span.Shrink(api.Vec{most, most, most, most, most, most, most, most}, api.Vec{}),
		span.Shrink(api.Vec{}, api.Vec{most, 1 << 24, 1 << 16, 256, 255, 1, most, 1 << 31}),
	} {
		for n := range b {
			if _, e := span.Grow(b[:n], api.Vec{}); e != api.ErrCut {
				t.Errorf("%v cut at %d: %d", b, n, e)
			}
			reads(t, b[:n])
		}
		for c := range 256 {
			longer := append(slices.Clone(b), byte(c))
			refuses(t, longer, b, api.ErrLong)
			reads(t, longer)
			for at := range b {
				changed := slices.Clone(b)
				changed[at] = byte(c)
				reads(t, changed)
				reads(t, slices.Insert(slices.Clone(b), at, byte(c)))
			}
		}
		for at := range b {
			reads(t, slices.Delete(slices.Clone(b), at, at+1))
		}
	}
}
