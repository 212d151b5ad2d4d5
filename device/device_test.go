package device_test

import (
	"bytes"
	"math"
	"testing"

	"wardship/api"
	"wardship/device"
)

// filled is a sector of one byte.
func filled(c byte) []byte { return bytes.Repeat([]byte{c}, api.Sector) }

// mixed is a sector with n bytes of c ahead of others of behind.
func mixed(n int, c, behind byte) []byte {
	return append(bytes.Repeat([]byte{c}, n), bytes.Repeat([]byte{behind}, api.Sector-n)...)
}

// noise is a sector that a plain rule makes of a seed.
func noise(seed uint32) []byte {
	b := make([]byte, api.Sector)
	for i := range b {
		seed = seed*1664525 + 1013904223
		b[i] = byte(seed >> 24)
	}
	return b
}

// none is a choice that leaves nothing.
func none() api.Choice { return api.Choice{Torn: -1} }

// create is a device of so many sectors, which there must be.
func create(t *testing.T, sectors int) *device.Device {
	t.Helper()
	d, e := device.New(sectors)
	if d == nil || e != api.OK {
		t.Fatalf("New(%d) = %v, %d", sectors, d, e)
	}
	return d
}

// write writes, which must find no error.
func write(t *testing.T, d *device.Device, i int, b []byte) {
	t.Helper()
	if e := d.Write(i, b); e != api.OK {
		t.Fatalf("Write(%d) = %d", i, e)
	}
}

// barrier is a barrier, which must find no error.
func barrier(t *testing.T, d *device.Device) {
	t.Helper()
	if e := d.Barrier(); e != api.OK {
		t.Fatalf("Barrier() = %d", e)
	}
}

// reads checks what a sector has.
func reads(t *testing.T, d *device.Device, i int, want []byte) {
	t.Helper()
	got, e := d.Read(i)
	if e != api.OK || !bytes.Equal(got, want) {
		t.Fatalf("Read(%d) = %v, %d, want %v", i, got, e, want)
	}
}

// counts checks what a device tells of itself.
func counts(t *testing.T, d *device.Device, off bool, loose, changes int) {
	t.Helper()
	if d.Off() != off || d.Loose() != loose || d.Changes() != changes {
		t.Fatalf("off %v, %d loose writes, %d changes; want %v, %d, %d", d.Off(), d.Loose(), d.Changes(), off, loose, changes)
	}
}

// on turns the power on, which must have been off.
func on(t *testing.T, d *device.Device) {
	t.Helper()
	if !d.On() || d.Off() {
		t.Fatal("the power wasn't off, or isn't on")
	}
}

// P3.1: a new device is on, with sectors of zeros.
func TestNew(t *testing.T) {
	for _, n := range []int{1, 2, 3, 100, 4095, 4096} {
		d := create(t, n)
		counts(t, d, false, 0, 0)
		if d.Size() != n {
			t.Errorf("Size() = %d, want %d", d.Size(), n)
		}
		for i := range n {
			reads(t, d, i, make([]byte, 256))
		}
		if d.On() {
			t.Error("a new device was off")
		}
	}
}

// P3.1: there is no device of fewer sectors than 1, or of more than 4096.
func TestNewRefused(t *testing.T) {
	for _, n := range []int{0, -1, -4096, 4097, 8192, 1 << 40, math.MinInt, math.MaxInt} {
		if d, e := device.New(n); d != nil || e != api.ErrArg {
			t.Errorf("New(%d) = %v, %d, want nil, %d", n, d, e, api.ErrArg)
		}
	}
}

// P3.1: a sector has what was written last, sure or not, and the others have what they had.
func TestReadTellsTheLastWrite(t *testing.T) {
	for _, n := range []int{1, 2, 5, 4096} {
		d := create(t, n)
		write(t, d, n-1, noise(1))
		write(t, d, 0, noise(2))
		reads(t, d, 0, noise(2))
		write(t, d, 0, noise(3))
		reads(t, d, 0, noise(3))
		barrier(t, d)
		reads(t, d, 0, noise(3))
		write(t, d, 0, noise(4))
		reads(t, d, 0, noise(4))
		if n > 1 {
			reads(t, d, n-1, noise(1))
		}
		for i := 1; i < n-1; i++ {
			reads(t, d, i, make([]byte, 256))
		}
	}
}

// P3.1: every byte of every sector is kept apart.
func TestAllSectors(t *testing.T) {
	d := create(t, api.MaxSector)
	for i := range api.MaxSector {
		write(t, d, i, noise(uint32(i)))
	}
	counts(t, d, false, 4096, 4096)
	for i := range api.MaxSector {
		reads(t, d, i, noise(uint32(i)))
	}
	barrier(t, d)
	counts(t, d, false, 0, 4097)
	d.Cut(none())
	on(t, d)
	for i := range api.MaxSector {
		reads(t, d, i, noise(uint32(i)))
	}
}

// P3.1: sectors that there aren't.
func TestNoSuchSector(t *testing.T) {
	for _, n := range []int{1, 3, 4096} {
		d := create(t, n)
		for _, i := range []int{-1, -2, -n, n, n + 1, 1 << 32, math.MinInt, math.MaxInt} {
			if b, e := d.Read(i); len(b) != 0 || e != api.ErrNone {
				t.Errorf("Read(%d) of %d = %v, %d, want none, %d", i, n, b, e, api.ErrNone)
			}
			if e := d.Write(i, filled('a')); e != api.ErrNone {
				t.Errorf("Write(%d) of %d = %d, want %d", i, n, e, api.ErrNone)
			}
		}
		counts(t, d, false, 0, 0)
		reads(t, d, 0, make([]byte, 256))
		reads(t, d, n-1, make([]byte, 256))
	}
}

// P3.1, rule 3: too few or too many bytes are refused, and change nothing.
func TestWrongBytes(t *testing.T) {
	d := create(t, 2)
	write(t, d, 1, filled('a'))
	for _, b := range [][]byte{nil, {}, {1}, filled('b')[:255], append(filled('b'), 'b'), append(filled('b'), filled('c')...)} {
		for i := range 2 {
			if e := d.Write(i, b); e != api.ErrArg {
				t.Errorf("Write of %d bytes = %d, want %d", len(b), e, api.ErrArg)
			}
		}
	}
	counts(t, d, false, 1, 1)
	reads(t, d, 0, make([]byte, 256))
	reads(t, d, 1, filled('a'))
}

// P3.1, rule 1: ErrDown comes ahead of ErrNone, and that ahead of ErrArg.
func TestWhichErrorComesFirst(t *testing.T) {
	d := create(t, 2)
	for _, i := range []int{-1, 2, math.MinInt, math.MaxInt} {
		for _, b := range [][]byte{nil, filled('a')[:255], append(filled('a'), 'a')} {
			if e := d.Write(i, b); e != api.ErrNone {
				t.Errorf("Write(%d) of %d bytes = %d, want %d", i, len(b), e, api.ErrNone)
			}
		}
	}
	d.Cut(none())
	for _, i := range []int{-1, 0, 1, 2, math.MinInt, math.MaxInt} {
		for _, b := range [][]byte{nil, filled('a')[:255], filled('a'), append(filled('a'), 'a')} {
			if e := d.Write(i, b); e != api.ErrDown {
				t.Errorf("Write(%d) of %d bytes with the power off = %d, want %d", i, len(b), e, api.ErrDown)
			}
		}
		if b, e := d.Read(i); len(b) != 0 || e != api.ErrDown {
			t.Errorf("Read(%d) with the power off = %v, %d, want none, %d", i, b, e, api.ErrDown)
		}
	}
	if e := d.Barrier(); e != api.ErrDown {
		t.Errorf("Barrier() with the power off = %d, want %d", e, api.ErrDown)
	}
	counts(t, d, true, 0, 0)
	on(t, d)
	reads(t, d, 0, make([]byte, 256))
	reads(t, d, 1, make([]byte, 256))
}

// P3.1: a barrier makes all loose writes durable, and is a change also where there is none.
func TestBarrier(t *testing.T) {
	d := create(t, 3)
	barrier(t, d)
	counts(t, d, false, 0, 1)
	write(t, d, 0, filled('a'))
	write(t, d, 2, filled('b'))
	write(t, d, 2, filled('c'))
	counts(t, d, false, 3, 4)
	barrier(t, d)
	counts(t, d, false, 0, 5)
	barrier(t, d)
	counts(t, d, false, 0, 6)
	d.Cut(none())
	on(t, d)
	reads(t, d, 0, filled('a'))
	reads(t, d, 1, make([]byte, 256))
	reads(t, d, 2, filled('c'))
}

// P3.2: Changes counts writes and barriers that find no error, and nothing else.
func TestWhatIsNoChange(t *testing.T) {
	d := create(t, 2)
	write(t, d, 0, filled('a'))
	d.Read(0)
	d.Read(2)
	d.Size()
	d.On()
	d.Off()
	d.Loose()
	d.Write(-1, filled('b'))
	d.Write(2, filled('b'))
	d.Write(1, nil)
	d.Plan(5, none())
	d.Plan(-1, none())
	counts(t, d, false, 1, 1)
	d.Cut(api.Choice{Kept: []int{0}})
	d.Write(1, filled('c'))
	d.Barrier()
	d.Cut(none())
	counts(t, d, true, 0, 1)
	on(t, d)
	counts(t, d, false, 0, 1)
	write(t, d, 1, filled('d'))
	counts(t, d, false, 1, 2)
}
