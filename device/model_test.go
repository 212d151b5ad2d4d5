package device_test

import (
	"bytes"
	"slices"
	"testing"

	"wardship/api"
	"wardship/device"
)

// model is what the chapter says of a device, told anew: durable bytes, and a list of the loose writes that is gone through for every answer.
type model struct {
	sure    [][]byte
	at      []int
	written [][]byte
	off     bool
	after   int // below 0: no cut is planned
	choice  api.Choice
	changes int
}

func newModel(sectors int) *model {
	m := &model{after: -1}
	for range sectors {
		m.sure = append(m.sure, make([]byte, api.Sector))
	}
	return m
}

func (m *model) read(i int) ([]byte, api.Errno) {
	switch {
	case m.off:
		return nil, api.ErrDown
	case i < 0 || i >= len(m.sure):
		return nil, api.ErrNone
	}
	for n := len(m.at) - 1; n >= 0; n-- {
		if m.at[n] == i {
			return m.written[n], api.OK
		}
	}
	return m.sure[i], api.OK
}

func (m *model) write(i int, b []byte) api.Errno {
	if _, e := m.read(i); e != api.OK {
		return e
	}
	if len(b) != api.Sector {
		return api.ErrArg
	}
	m.at, m.written = append(m.at, i), append(m.written, slices.Clone(b))
	if m.struck() {
		return api.ErrDown
	}
	return api.OK
}

func (m *model) barrier() api.Errno {
	if m.off || m.struck() {
		return api.ErrDown
	}
	m.settle(func(int) int { return api.Sector })
	return api.OK
}

// struck counts a change, and tells whether the planned cut came at it.
func (m *model) struck() bool {
	m.changes++
	if m.after < 0 {
		return false
	}
	m.after--
	if m.after < 0 {
		m.cut(m.choice)
		return true
	}
	return false
}

func (m *model) cut(c api.Choice) {
	if m.off {
		return
	}
	m.settle(func(n int) int {
		switch {
		case slices.Contains(c.Kept, n):
			return api.Sector
		case n == c.Torn:
			return c.Half
		}
		return 0
	})
	m.off, m.after = true, -1
}

// settle makes of each loose write so many bytes durable.
func (m *model) settle(size func(n int) int) {
	for n, i := range m.at {
		for k := range api.Sector {
			if k < size(n) {
				m.sure[i][k] = m.written[n][k]
			}
		}
	}
	m.at, m.written = nil, nil
}

// rule gives numbers one after the other, by a plain rule from a seed.
type rule uint32

func (r *rule) below(n int) int {
	*r = *r*1664525 + 1013904223
	return int(*r>>8) % n
}

func (r *rule) choice() api.Choice {
	var kept []int
	for range r.below(6) {
		kept = append(kept, r.below(9)-2)
	}
	return api.Choice{Kept: kept, Torn: r.below(8) - 2, Half: r.below(300) - 20}
}

// step makes one call of both, by the rule, and tells whether they answer the same.
func step(r *rule, d *device.Device, m *model) bool {
	sectors := len(m.sure)
	switch call := r.below(16); call {
	case 0, 1, 2, 3, 4, 5, 6:
		i, b := r.below(sectors), noise(uint32(*r))
		return d.Write(i, b) == m.write(i, b)
	case 7:
		i, b := r.below(sectors+4)-2, noise(uint32(*r))[:254+r.below(3)]
		return d.Write(i, b) == m.write(i, b)
	case 8, 9:
		return d.Barrier() == m.barrier()
	case 10, 11:
		m.after, m.choice = max(r.below(10)-2, -1), r.choice()
		d.Plan(m.after, m.choice)
	case 12:
		c := r.choice()
		d.Cut(c)
		m.cut(c)
	default:
		was := m.off
		m.off = false
		return d.On() == was
	}
	return true
}

// sameAnswers tells whether all that can be asked of both is the same.
func sameAnswers(d *device.Device, m *model) bool {
	for i := -1; i <= len(m.sure); i++ {
		got, e := d.Read(i)
		want, f := m.read(i)
		if e != f || !bytes.Equal(got, want) {
			return false
		}
	}
	return d.Off() == m.off && d.Loose() == len(m.at) && d.Changes() == m.changes && d.Size() == len(m.sure)
}

// P3.1, P3.2, P1, P2: long rows of calls, in any order, answer what the chapter says, and the same on a second device.
func TestCallsInAnyOrder(t *testing.T) {
	for seed := range 300 {
		sectors := 1 + seed%4
		first, second := rule(seed), rule(seed)
		a, b := create(t, sectors), create(t, sectors)
		m, again := newModel(sectors), newModel(sectors)
		for n := range 400 {
			if !step(&first, a, m) || !sameAnswers(a, m) {
				t.Fatalf("seed %d: call %d differs", seed, n)
			}
			if !step(&second, b, again) || !sameAnswers(b, m) {
				t.Fatalf("seed %d: call %d differs on a second device", seed, n)
			}
		}
	}
}

// P1: many loose writes to one sector, all of them kept, in a time that grows no faster than their number.
func TestManyLooseWrites(t *testing.T) {
	const many = 100000
	d := create(t, 1)
	kept := make([]int, many)
	for n := range many {
		write(t, d, 0, filled(byte(n)))
		kept[n] = n
	}
	counts(t, d, false, many, many)
	reads(t, d, 0, filled(byte((many-1)%256)))
	d.Cut(api.Choice{Kept: kept, Torn: many - 1, Half: 1})
	on(t, d)
	reads(t, d, 0, filled(byte((many-1)%256)))
}
