package journal

import (
	"bytes"
	"slices"

	"wardship/api"
	"wardship/device"
)

const (
	// tallies is how many sectors, the first ones, are tallies.
	tallies = 2
	// mark begins each of a tally's copies.
	mark = "wardship"
	// wordSize is how many bytes each number of a tally has, and as many has the mark.
	wordSize = 8
	// copies is how many bytes a tally's two copies have.
	copies = 64
	// maxNumber is the greatest number of a tally.
	maxNumber = 1 << 62
)

// tally tells which side is in use, and how many of its bytes; the number 0 is that of none.
type tally struct {
	number uint64
	side   int
	used   int
}

// sector is the bytes of a sector that is the tally t.
func (t tally) sector() []byte {
	number, side, used := word(t.number), word(uint64(t.side)), word(uint64(t.used))
	// The number ends the second copy, so that a torn tally is told by its last byte.
	return whole(slices.Concat([]byte(mark), number, side, used, []byte(mark), side, used, number))
}

// write makes t durable, in the sector where the tally before it isn't.
func (t tally) write(d *device.Device) api.Errno {
	if e := d.Write(int(t.number%tallies), t.sector()); e != api.OK {
		return e
	}
	return d.Barrier()
}

// asTally is the tally that the bytes of a sector are, on a device whose sides have size bytes; none, if it isn't valid.
func asTally(b []byte, size int) tally {
	number, side, used := asWord(b[wordSize:]), asWord(b[2*wordSize:]), asWord(b[3*wordSize:])
	if number < 1 || number > maxNumber || side > 1 || used > uint64(size) {
		return tally{}
	}
	t := tally{number, int(side), int(used)}
	if !bytes.Equal(b[:copies], t.sector()[:copies]) {
		return tally{}
	}
	return t
}

// current is the valid tally with the greater number; none, if there is no valid one.
func current(d *device.Device) (tally, api.Errno) {
	var found tally
	for i := range tallies {
		b, e := d.Read(i)
		if e != api.OK {
			return tally{}, e
		}
		if t := asTally(b, sideSize(d)); t.number > found.number {
			found = t
		}
	}
	return found, api.OK
}

// word is n in eight bytes, the most significant first.
func word(n uint64) []byte {
	b := make([]byte, wordSize)
	for i := range b {
		b[i] = byte(n >> (8 * (wordSize - 1 - i)))
	}
	return b
}

// asWord is the number of the first eight bytes of b.
func asWord(b []byte) uint64 {
	var n uint64
	for _, c := range b[:wordSize] {
		n = n<<8 | uint64(c)
	}
	return n
}
