package keep_test

import (
	"slices"
	"testing"

	"wardship/api"
	"wardship/device"
	"wardship/keep"
)

// refused checks that a Commit returns an error, and neither writes nor changes anything.
func refused(t testing.TB, d *device.Device, k *keep.Keep, l []api.Put, want api.Errno, was contents) {
	t.Helper()
	changes, free, broken := d.Changes(), k.Room(), k.Broken()
	is(t, "Commit", k.Commit(l), want)
	if d.Changes() != changes || k.Broken() != broken {
		t.Fatalf("a refused Commit made %d changes, Broken() = %v", d.Changes()-changes, k.Broken())
	}
	room(t, k, free)
	holds(t, k, was)
}

// P5.2: a value has at most MaxValue bytes, also one that is ignored.
func TestLongValues(t *testing.T) {
	if keep.MaxValue != 60000 {
		t.Errorf("MaxValue = %d", keep.MaxValue)
	}
	d := create(t, 1000)
	k := open(t, d, nil)
	most, more := []byte(noise(1, 60000)), []byte(noise(2, 60001))
	l := []api.Put{{Key: 1, Val: most}, put(2, "a")}
	is(t, "Commit", k.Commit(l), api.OK)
	want := contents{1: string(most), 2: "a"}
	has(t, d, encoded(l...))
	open(t, d, want)
	for _, l := range [][]api.Put{
		{{Key: 1, Val: more}}, {{Key: 1, Val: more, Gone: true}}, {put(1, "b"), {Key: 2, Val: more}}, {{Key: 3, Val: more}, gone(3)},
		{gone(1), {Key: 9, Val: more, Gone: true}, gone(2)}, {{Val: make([]byte, 70000)}}, {{Val: make([]byte, 1<<20), Gone: true}},
	} {
		refused(t, d, k, l, api.ErrLong, want)
		open(t, d, want)
	}
	l = []api.Put{{Key: 1, Val: most, Gone: true}}
	is(t, "Commit", k.Commit(l), api.OK)
	open(t, d, contents{2: "a"})
}

// P5.2: the record of some changes has at most 65531 bytes.
func TestLongRecords(t *testing.T) {
	for _, c := range []struct {
		most []api.Put
		more api.Put // in the place of the last one
	}{
		{[]api.Put{put(0, noise(1, 60000)), put(1, noise(2, 5520))}, put(1, noise(2, 5521))},
		{[]api.Put{put(0, noise(1, 60000)), put(255, noise(2, 5520))}, put(256, noise(2, 5520))},
		{[]api.Put{put(1, noise(1, 5520)), put(0, noise(2, 60000))}, put(2, noise(2, 60000))},
		{[]api.Put{put(1, noise(1, 59000)), put(1, noise(2, 6516)), gone(1)}, gone(256)},
		{append(slices.Repeat([]api.Put{gone(0)}, 32764), gone(1)), gone(256)},
		{append(slices.Repeat([]api.Put{put(0, "")}, 21842), gone(1), gone(0)), gone(1)},
	} {
		most := encoded(c.most...)
		if more := encoded(append(slices.Clone(c.most[:len(c.most)-1]), c.more)...); len(most) != 65531 || len(more) != 65532 {
			t.Fatalf("the records have %d and %d bytes", len(most), len(more))
		}
		d := create(t, 1100)
		k := open(t, d, nil)
		is(t, "Commit", k.Commit([]api.Put{put(5, "five")}), api.OK)
		l := append(slices.Clone(c.most[:len(c.most)-1]), c.more)
		refused(t, d, k, l, api.ErrLong, contents{5: "five"})
		is(t, "Commit", k.Commit(c.most), api.OK)
		has(t, d, encoded(put(5, "five")), most)
		open(t, d, contents{5: "five"}.after(c.most...))
	}
}

// P5.2: changes whose record is far too long, though there is little memory in them.
func TestVeryLongRecords(t *testing.T) {
	d := create(t, 600)
	k := open(t, d, nil)
	l := slices.Repeat([]api.Put{{Key: 1, Val: make([]byte, keep.MaxValue)}}, 1<<14)
	refused(t, d, k, l, api.ErrLong, nil)
	refused(t, d, k, slices.Repeat([]api.Put{gone(1)}, 1<<17), api.ErrLong, nil)
}

// P5.2: a record is added as long as there is room, to the last byte; with one byte more the records are replaced.
func TestRoom(t *testing.T) {
	for free := 9; free < 250; free++ {
		d := create(t, 6)
		k := open(t, d, nil)
		old := []api.Put{put(1, noise(1, 240)), put(1, noise(2, 252-free)), put(2, "b")}
		is(t, "Commit", k.Commit(old), api.OK)
		room(t, k, free)
		before := contents{}.after(old...)
		full := laid(t, image(t, d))
		fits, exceeds := put(3, noise(3, free-9)), put(3, noise(3, free-8))
		is(t, "Commit", k.Commit([]api.Put{fits}), api.OK)
		room(t, k, 0)
		has(t, d, encoded(old...), encoded(fits))
		open(t, d, before.after(fits))
		k = open(t, full, before)
		after := before.after(exceeds)
		is(t, "Commit", k.Commit([]api.Put{exceeds}), api.OK)
		has(t, full, after.records()...)
		room(t, k, 512-len(stored(after.records()...)))
		holds(t, k, after)
		open(t, full, after)
	}
}

// P5.2: what is left fills the side to the last byte, or is one byte too long: then nothing is done.
func TestRoomOfReplace(t *testing.T) {
	for n := range 3 {
		d := create(t, 6)
		k := open(t, d, nil)
		is(t, "Commit", k.Commit([]api.Put{put(1, noise(1, 200))}), api.OK)
		is(t, "Commit", k.Commit([]api.Put{put(2, noise(2, 200))}), api.OK)
		before := contents{1: noise(1, 200), 2: noise(2, 200)}
		l := []api.Put{put(1, noise(4, 201)), gone(9), put(3, noise(3, 512-418-10+n))}
		after := before.after(l...)
		if used := len(stored(after.records()...)); used != 512+n {
			t.Fatalf("the records would take %d bytes", used)
		}
		if n > 0 {
			refused(t, d, k, l, api.ErrFull, before)
			open(t, d, before)
			has(t, d, before.records()...)
			is(t, "Commit", k.Commit([]api.Put{put(3, "c")}), api.OK)
			open(t, d, before.after(put(3, "c")))
			continue
		}
		is(t, "Commit", k.Commit(l), api.OK)
		room(t, k, 0)
		has(t, d, after.records()...)
		open(t, d, after)
		refused(t, d, k, []api.Put{put(4, "")}, api.ErrFull, after)
		is(t, "Commit", k.Commit([]api.Put{gone(3)}), api.OK)
		open(t, d, after.after(gone(3)))
	}
}

// P5.2: changes whose record doesn't fit on any side are kept if what they come to fits.
func TestRecordLongerThanSide(t *testing.T) {
	d := create(t, 6)
	k := open(t, d, nil)
	is(t, "Commit", k.Commit([]api.Put{put(1, "a"), put(2, "b")}), api.OK)
	l := []api.Put{put(3, noise(1, 600)), put(3, "c"), put(2, noise(2, 700)), gone(2)}
	is(t, "Commit", k.Commit(l), api.OK)
	has(t, d, encoded(put(1, "a")), encoded(put(3, "c")))
	open(t, d, contents{1: "a", 3: "c"})
	refused(t, d, k, []api.Put{gone(1), put(3, noise(1, 600))}, api.ErrFull, contents{1: "a", 3: "c"})
}

// P5.2: a tally with the greatest number leaves no room, neither for a record more nor for a replacement.
func TestLastTally(t *testing.T) {
	const greatest = 1 << 62
	for number := uint64(greatest - 1); number <= greatest; number++ {
		for _, l := range [][]api.Put{{put(1, "b")}, {gone(1)}, {put(2, noise(1, 500))}} {
			d := create(t, 6)
			old := stored(encoded(put(1, "a"), put(1, noise(9, 100)), put(1, "a")))
			set(t, d, 2, old)
			set(t, d, int(number%2), tally(number, 0, uint64(len(old))))
			k := open(t, d, contents{1: "a"})
			if number < greatest {
				want := contents{1: "a"}.after(l...)
				if len(stored(want.records()...)) > 512 {
					refused(t, d, k, l, api.ErrFull, contents{1: "a"})
					continue
				}
				is(t, "Commit", k.Commit(l), api.OK)
				open(t, d, want)
				refused(t, d, k, l, api.ErrFull, want)
				continue
			}
			refused(t, d, k, l, api.ErrFull, contents{1: "a"})
			is(t, "Commit", k.Commit(nil), api.OK)
			refused(t, d, k, []api.Put{put(1, noise(1, 60001))}, api.ErrLong, contents{1: "a"})
		}
	}
}

// P5.2: which error comes first: ErrState, ErrLong for a value, OK for nothing, ErrLong for the record, ErrFull, ErrDown.
func TestFirstError(t *testing.T) {
	value, record := []api.Put{gone(1), {Key: 1, Val: make([]byte, 60001), Gone: true}}, slices.Repeat([]api.Put{put(1, noise(1, 1000))}, 66)
	full, fits := []api.Put{put(2, noise(2, 600))}, []api.Put{put(2, "b")}
	replaces := []api.Put{put(1, noise(3, 420))}
	was := contents{1: noise(1, 400)}
	d := create(t, 6)
	k := open(t, d, nil)
	is(t, "Commit", k.Commit([]api.Put{put(1, was[1])}), api.OK)
	for range 2 {
		refused(t, d, k, value, api.ErrLong, was)
		refused(t, d, k, record, api.ErrLong, was)
		refused(t, d, k, slices.Concat(record, value), api.ErrLong, was)
		refused(t, d, k, full, api.ErrFull, was)
		is(t, "Commit", k.Commit(nil), api.OK)
		d.Cut(none()) // what is refused anyway is so, too, while the power is off
	}
	for _, l := range [][]api.Put{fits, replaces} {
		k := reopened(t, d, was)
		d.Cut(none())
		is(t, "Commit", k.Commit(l), api.ErrDown)
		if !k.Broken() {
			t.Error("Broken() = false")
		}
		for _, l := range [][]api.Put{nil, value, record, full, fits, replaces} {
			refused(t, d, k, l, api.ErrState, was)
		}
		on(t, d)
		for _, l := range [][]api.Put{nil, value, record, full, fits, replaces} {
			refused(t, d, k, l, api.ErrState, was)
		}
		d.Cut(none())
	}
	reopened(t, d, was)
}

// reopened is the store on a device that is off, and on from now on.
func reopened(t testing.TB, d *device.Device, want contents) *keep.Keep {
	t.Helper()
	on(t, d)
	return open(t, d, want)
}
