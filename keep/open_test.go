package keep_test

import (
	"encoding/binary"
	"slices"
	"testing"

	"wardship/api"
)

// P5.1: devices that layer 4 refuses: none, one of fewer than six sectors, one that is off.
func TestOpenRefused(t *testing.T) {
	openFails(t, nil, api.ErrArg)
	for n := 1; n < 6; n++ {
		d := create(t, n)
		openFails(t, d, api.ErrArg)
		d.Cut(none())
		openFails(t, d, api.ErrArg)
	}
	for _, n := range []int{6, 7, 4096} {
		d := create(t, n)
		d.Cut(none())
		openFails(t, d, api.ErrDown)
		on(t, d)
		k := open(t, d, nil)
		is(t, "Commit", k.Commit([]api.Put{put(1, "a")}), api.OK)
		d.Cut(none())
		openFails(t, d, api.ErrDown)
		on(t, d)
		open(t, d, contents{1: "a"})
	}
}

// P5.1: a device without a journal gets an empty one; if the power is lost meanwhile, there is no store.
func TestOpenOfNewDevice(t *testing.T) {
	for _, n := range []int{6, 7, 8, 21, 4096} {
		d := create(t, n)
		room(t, open(t, d, nil), (n-2)/2*256)
		if d.Changes() != 2 {
			t.Errorf("%d changes, want 2", d.Changes())
		}
		has(t, d)
	}
	for cut := range 2 {
		for _, c := range choices(1, upTo(66)) {
			d := create(t, 6)
			d.Plan(cut, c)
			openFails(t, d, api.ErrDown)
			openFails(t, d, api.ErrDown)
			on(t, d)
			k := open(t, d, nil)
			is(t, "Commit", k.Commit([]api.Put{put(1, "a")}), api.OK)
			open(t, d, contents{1: "a"})
		}
	}
}

// wrongRecords is bytes that are no record of changes.
func wrongRecords() [][]byte {
	return [][]byte{
		// no encoded fields
		{1}, {2, 5}, {255}, {255, 1}, {255, 0, 254}, {255, 0, 0, 0}, {255, 1, 0, 0}, {0, 1}, {0, 0, 9}, {1, 7, 2, 1}, {1, 7, 255, 0, 2, 1, 'x'},
		{1, 7, 2, 1, 'x', 1}, {1, 7, 0, 5}, {1, 7, 255, 255, 255, 1},
		// an odd number of them
		{0}, {1, 7}, {0, 0, 0}, {1, 7, 2, 1, 'x', 1, 8}, {1, 7, 0, 0}, {1, 1, 1, 1, 1, 1}, {0, 0, 0, 0, 0},
		// a key that isn't the bytes of a number
		{1, 0, 0}, {1, 0, 1, 1}, {2, 0, 7, 0}, {8, 0, 1, 1, 1, 1, 1, 1, 1, 0}, {9, 1, 1, 1, 1, 1, 1, 1, 1, 1, 0}, {9, 0, 0, 0, 0, 0, 0, 0, 0, 0, 1, 1},
		{9, 0, 1, 1, 1, 1, 1, 1, 1, 1, 2, 1, 'x'}, {1, 7, 0, 1, 0, 0}, {1, 7, 2, 1, 'x', 2, 0, 7, 2, 1, 'x'},
		append(append([]byte{255, 1, 0}, make([]byte, 256)...), 0), append(append([]byte{255, 1, 0}, noise(1, 256)...), 1, 1),
		// a value's field that begins with a byte other than 1
		{1, 7, 1, 0}, {1, 7, 1, 2}, {1, 7, 1, 255}, {0, 2, 0, 1}, {1, 7, 2, 2, 'x'}, {1, 7, 2, 'x', 1}, {1, 7, 3, 0, 0, 0}, {1, 7, 2, 1, 'x', 1, 8, 1, 0}, {1, 7, 1, 0, 1, 7, 0},
		append([]byte{0, 255, 1, 0}, make([]byte, 256)...),
	}
}

// P5.1: a record that is no record of changes is ErrForm, wherever it stands, and whether or not its changes would still count.
func TestOpenOfWrongRecords(t *testing.T) {
	good := encoded(put(7, "a"), put(8, "b"))
	removed := encoded(gone(0), gone(7), gone(8))
	for _, wrong := range wrongRecords() {
		for _, records := range [][][]byte{
			{wrong}, {good, wrong}, {wrong, good}, {good, wrong, removed}, {nil, nil, wrong, nil}, {wrong, wrong}, {removed, wrong},
		} {
			d := recorded(t, 12, records...)
			want, changes := image(t, d), d.Changes()
			openFails(t, d, api.ErrForm)
			openFails(t, d, api.ErrForm)
			if d.Changes() != changes || d.Off() || !slices.EqualFunc(image(t, d), want, slices.Equal) {
				t.Error("Open changed the device")
			}
			d.Cut(none())
			openFails(t, d, api.ErrDown)
		}
	}
}

// P5.1: of the records of up to five bytes, each 0 to 3 or 255, those in the form are taken, for what they say, and no others.
func TestOpenOfShortRecords(t *testing.T) {
	for _, b := range short() {
		want, e := told(b)
		if e != api.OK {
			openFails(t, recorded(t, 6, b), e)
			continue
		}
		open(t, recorded(t, 6, b), want)
	}
}

// short is all records of up to five bytes, each of which is one of some that matter.
func short() [][]byte {
	all := [][]byte{nil}
	for from, n := 0, 0; n < 5; n++ {
		end := len(all)
		for ; from < end; from++ {
			for _, c := range []byte{0, 1, 2, 3, 255} {
				all = append(all, append(slices.Clone(all[from]), c))
			}
		}
	}
	return all
}

// told is what a record of at most five bytes comes to, told anew: each length below 255 is one byte, and a longer one is never whole.
func told(b []byte) (contents, api.Errno) {
	var fields []string
	for len(b) > 0 {
		n := int(b[0])
		if n == 255 || len(b) <= n {
			return nil, api.ErrForm
		}
		fields, b = append(fields, string(b[1:1+n])), b[1+n:]
	}
	if len(fields)%2 == 1 {
		return nil, api.ErrForm
	}
	c := contents{}
	for i := 0; i < len(fields); i += 2 {
		key, value := fields[i], fields[i+1]
		if key != "" && key[0] == 0 || value != "" && value[0] != 1 {
			return nil, api.ErrForm
		}
		number := binary.BigEndian.Uint64(append(make([]byte, 8-len(key)), key...))
		delete(c, number)
		if value != "" {
			c[number] = value[1:]
		}
	}
	return c, api.OK
}

// P5.1: layer 4's errors come first, also behind a record that is no record of changes.
func TestOpenOfDamagedJournal(t *testing.T) {
	wrong, good := []byte{1, 7, 1, 0}, encoded(put(7, "a"))
	unsealed := []byte{5, 1, 0, 0, 0, 0}
	for _, c := range []struct {
		b    []byte
		want api.Errno
	}{
		{unsealed, api.ErrSum},
		{slices.Concat(stored(good), unsealed), api.ErrSum},
		{slices.Concat(stored(wrong), unsealed), api.ErrSum},
		{slices.Concat(unsealed, stored(wrong)), api.ErrSum},
		{[]byte{1}, api.ErrForm},
		{slices.Concat(stored(good), []byte{255}), api.ErrForm},
		{stored(wrong), api.ErrForm},
		{stored(good, wrong), api.ErrForm},
	} {
		d := create(t, 6)
		set(t, d, 2, c.b)
		set(t, d, 0, tally(2, 0, uint64(len(c.b))))
		openFails(t, d, c.want)
	}
}

// tally is the bytes of a tally of layer 4.
func tally(number, side, used uint64) []byte {
	b := []byte("wardship")
	for _, n := range []uint64{number, side, used} {
		b = binary.BigEndian.AppendUint64(b, n)
	}
	b = append(b, "wardship"...)
	for _, n := range []uint64{side, used, number} {
		b = binary.BigEndian.AppendUint64(b, n)
	}
	return b
}

// P5.1: a value that is longer than a Commit would keep it makes no record wrong; it is found, and stays where the records are replaced.
func TestOpenOfLongValues(t *testing.T) {
	for _, n := range []int{60001, 65526} {
		long := noise(1, n)
		d := recorded(t, 530, encoded(put(0, long)))
		k := open(t, d, contents{0: long})
		is(t, "Commit", k.Commit([]api.Put{put(2, noise(2, 9000)), put(2, "b")}), api.OK)
		has(t, d, encoded(put(0, long)), encoded(put(2, "b")))
		open(t, d, contents{0: long, 2: "b"})
	}
}

// P5.1: two stores on one device, one after the other, and a store on what an older one left.
func TestOpenAgain(t *testing.T) {
	d := create(t, 6)
	var want contents
	for n := range 100 {
		k := open(t, d, want)
		l := []api.Put{put(uint64(n%5), noise(uint32(n), n%20)), gone(uint64(n % 3))}
		is(t, "Commit", k.Commit(l), api.OK)
		want = want.after(l...)
		holds(t, k, want)
	}
}

// P5.1: only what is durable counts: the power is lost between two calls, and that breaks nothing.
func TestCutBetweenCommits(t *testing.T) {
	d := create(t, 8)
	k := open(t, d, nil)
	var want contents
	for n := range 40 {
		p := put(uint64(n%4), noise(uint32(n), 30))
		is(t, "Commit", k.Commit([]api.Put{p}), api.OK)
		want = want.after(p)
		d.Cut(none())
		on(t, d)
		holds(t, k, want)
		open(t, d, want)
	}
}
