package device_test

import (
	"bytes"
	"slices"
	"testing"

	"wardship/api"
	"wardship/device"
)

// P3.3: a nil device is off, and stays off, whatever is called.
func TestNilDevice(t *testing.T) {
	var d *device.Device
	for range 2 {
		if d.Size() != 0 {
			t.Error("a nil device has sectors")
		}
		counts(t, d, true, 0, 0)
		for _, i := range []int{-1, 0, 1} {
			if b, e := d.Read(i); len(b) != 0 || e != api.ErrDown {
				t.Errorf("Read(%d) = %v, %d", i, b, e)
			}
			for _, b := range [][]byte{nil, filled('a')} {
				if e := d.Write(i, b); e != api.ErrDown {
					t.Errorf("Write(%d) = %d", i, e)
				}
			}
			d.Plan(i, keepAll())
		}
		if e := d.Barrier(); e != api.ErrDown {
			t.Errorf("Barrier() = %d", e)
		}
		d.Cut(keepAll())
		if d.On() {
			t.Error("a nil device was turned on")
		}
	}
}

// Rule 4: Write keeps nothing of its argument, and neither changes it nor touches what lies behind its end.
func TestWriteSharesNothing(t *testing.T) {
	d := create(t, 2)
	all := append(filled('a'), "more"...)
	b := all[:api.Sector]
	write(t, d, 0, b)
	if !bytes.Equal(all, append(filled('a'), "more"...)) {
		t.Error("Write changed its argument")
	}
	clear(all)
	reads(t, d, 0, filled('a'))
	d.Cut(api.Choice{Kept: []int{0}, Torn: -1})
	on(t, d)
	reads(t, d, 0, filled('a'))

	b = filled('b')
	d.Plan(0, api.Choice{Torn: 0, Half: 200})
	struck(t, d, func() api.Errno { return d.Write(1, b) })
	clear(b)
	on(t, d)
	reads(t, d, 1, mixed(200, 'b', 0))
}

// Rule 4: what Read returned is shared with nothing, in either direction.
func TestReadSharesNothing(t *testing.T) {
	d := create(t, 2)
	write(t, d, 1, filled('x'))
	barrier(t, d)
	write(t, d, 0, filled('a'))
	for i, want := range [][]byte{filled('a'), filled('x')} {
		first, _ := d.Read(i)
		second, _ := d.Read(i)
		clear(first)
		_ = append(first, filled('z')...)
		if !bytes.Equal(second, want) {
			t.Errorf("two results of Read(%d) share memory", i)
		}
		reads(t, d, i, want)
	}
	old, _ := d.Read(0)
	write(t, d, 0, filled('b'))
	d.Cut(api.Choice{Kept: []int{0, 1}, Torn: -1})
	if !bytes.Equal(old, filled('a')) {
		t.Error("a later write shows in what was read")
	}
	on(t, d)
	reads(t, d, 0, filled('b'))
	reads(t, d, 1, filled('x'))
}

// Rule 4: Plan and Cut neither change nor keep Kept, and read nothing behind its end.
func TestChoiceSharesNothing(t *testing.T) {
	d := create(t, 2)
	all := []int{1, 1, 0}
	kept := all[:2]
	d.Plan(1, api.Choice{Kept: kept, Torn: -1})
	kept[0], kept[1] = 0, 0
	write(t, d, 0, filled('a'))
	struck(t, d, func() api.Errno { return d.Write(1, filled('b')) })
	on(t, d)
	reads(t, d, 0, filled(0))
	reads(t, d, 1, filled('b'))

	all = []int{3, 1, 0}
	write(t, d, 0, filled('c'))
	write(t, d, 1, filled('d'))
	d.Cut(api.Choice{Kept: all[:2], Torn: -1})
	if !slices.Equal(all, []int{3, 1, 0}) {
		t.Errorf("Cut left %v", all)
	}
	on(t, d)
	reads(t, d, 0, filled(0))
	reads(t, d, 1, filled('d'))
}

// P2: a device does nothing to another one.
func TestDevicesAreApart(t *testing.T) {
	a, b := create(t, 2), create(t, 2)
	write(t, a, 0, filled('a'))
	a.Plan(0, none())
	write(t, b, 0, filled('b'))
	barrier(t, b)
	struck(t, a, a.Barrier)
	counts(t, b, false, 0, 2)
	reads(t, b, 0, filled('b'))
	on(t, a)
	reads(t, a, 0, filled(0))
}

// P3.4: what was made durable, and not written since, is there after every cut.
func TestDurableStays(t *testing.T) {
	choices := []api.Choice{
		{}, none(), keepAll(), {Torn: 1, Half: 1}, {Kept: []int{1}, Torn: 0, Half: 255}, {Kept: []int{-1, 9, 0}, Torn: 2, Half: 1 << 20},
	}
	for n, c := range choices {
		for _, planned := range []bool{false, true} {
			d := create(t, 6)
			for i := range 6 {
				write(t, d, i, noise(uint32(i)))
			}
			barrier(t, d)
			for range 4 {
				for i := range 3 {
					write(t, d, i, noise(uint32(100*n+i)))
				}
				if planned {
					d.Plan(0, c)
					struck(t, d, d.Barrier)
				} else {
					d.Cut(c)
				}
				on(t, d)
				for i := 3; i < 6; i++ {
					reads(t, d, i, noise(uint32(i)))
				}
			}
		}
	}
}
