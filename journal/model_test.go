package journal_test

import (
	"bytes"
	"slices"
	"testing"

	"wardship/api"
	"wardship/device"
	"wardship/journal"
)

// rule gives numbers one after the other, by a plain rule from a seed.
type rule uint32

func (r *rule) below(n int) int {
	*r = *r*1664525 + 1013904223
	return int(*r>>8) % n
}

func (r *rule) choice() api.Choice {
	var kept []int
	for range r.below(4) {
		kept = append(kept, r.below(5)-1)
	}
	return api.Choice{Kept: kept, Torn: r.below(5) - 1, Half: r.below(90) - 5}
}

// records is a few records, some of them long, or too long.
func (r *rule) records() [][]byte {
	var all [][]byte
	for range r.below(4) {
		n := r.below(30)
		switch r.below(12) {
		case 0, 1:
			n = r.below(400)
		case 2:
			n = r.below(2) + 65531
		}
		all = append(all, noise(uint32(*r), n))
	}
	return all
}

// model is what the chapters say of a journal and its device, told anew.
type model struct {
	size    int
	laid    bool // is there a valid tally?
	records [][]byte
	off     bool
	after   int // below 0: no cut is planned
	choice  api.Choice
	open    bool // is there a journal?
	broken  bool
	count   int // what the journal tells
	room    int
}

// run tells whether so many changes, of which the last two write a tally, are made without a cut, and whether the tally is durable.
func (m *model) run(changes int) (whole, durable bool) {
	if m.after < 0 || m.after >= changes {
		m.after = max(m.after-changes, -1)
		return true, true
	}
	last := m.after >= changes-2
	m.off, m.after = true, -1
	return false, last && (slices.Contains(m.choice.Kept, 0) || m.choice.Torn == 0 && m.choice.Half >= 64)
}

func (m *model) reopen() api.Errno {
	m.open = false
	if m.off {
		return api.ErrDown
	}
	if !m.laid {
		whole, durable := m.run(2)
		m.laid = durable
		if !whole {
			return api.ErrDown
		}
	}
	m.open, m.broken, m.count, m.room = true, false, len(m.records), m.size-len(stored(m.records...))
	return api.OK
}

func (m *model) call(c call) api.Errno {
	if !m.open || m.broken {
		return api.ErrState
	}
	for _, record := range c.records {
		if len(record) > 65531 {
			return api.ErrLong
		}
	}
	if len(c.records) == 0 && !c.replace {
		return api.OK
	}
	result := c.result(m.records)
	if len(stored(result...)) > m.size {
		return api.ErrFull
	}
	if m.off {
		m.broken = true
		return api.ErrDown
	}
	whole, durable := m.run(c.changes(m.records))
	if durable {
		m.records = result
	}
	if !whole {
		m.broken = true
		return api.ErrDown
	}
	m.count, m.room = len(result), m.size-len(stored(result...))
	return api.OK
}

// pair is a device and its journal.
type pair struct {
	d *device.Device
	j *journal.Journal
}

// advance makes one call of both, by the rule, and tells whether they answer the same.
func advance(r *rule, p *pair, m *model) bool {
	switch r.below(16) {
	case 0, 1, 2, 3, 4, 5, 6, 7:
		c := call{r.below(3) == 0, r.records()}
		return c.make(p.j) == m.call(c)
	case 8, 9:
		m.after, m.choice = max(r.below(10)-2, -1), r.choice()
		p.d.Plan(m.after, m.choice)
	case 10:
		if p.d.Cut(none()); !m.off {
			m.off, m.after = true, -1
		}
	case 11, 12:
		was := m.off
		m.off = false
		return p.d.On() == was
	default:
		j, records, e := journal.Open(p.d)
		p.j = j
		want := m.reopen()
		return e == want && (e == api.OK && sameRecords(records, m.records) || e != api.OK && j == nil && len(records) == 0)
	}
	return true
}

// sameAnswers tells whether the journal tells what the model does.
func sameAnswers(p *pair, m *model) bool {
	if !m.open {
		return p.j == nil && p.j.Broken() && p.j.Len() == 0 && p.j.Room() == 0
	}
	return p.j.Broken() == m.broken && p.j.Len() == m.count && p.j.Room() == m.room && p.d.Off() == m.off
}

// P4.1 to P4.3, P1, P2: long rows of calls, in any order, answer what the chapter says, and the same on a second device.
func TestCallsInAnyOrder(t *testing.T) {
	for seed := range 300 {
		sectors := 6 + seed%5
		_, size := sideOf(sectors, 0)
		first, second := rule(seed), rule(seed)
		a, b := &pair{d: create(t, sectors)}, &pair{d: create(t, sectors)}
		m, again := &model{size: size, after: -1}, &model{size: size, after: -1}
		for n := range 300 {
			if !advance(&first, a, m) || !sameAnswers(a, m) {
				t.Fatalf("seed %d: call %d differs", seed, n)
			}
			if !advance(&second, b, again) || !sameAnswers(b, again) {
				t.Fatalf("seed %d: call %d differs on a second device", seed, n)
			}
			sameDevices(t, a.d, b.d)
		}
	}
}

// sameDevices checks that two devices have had the same changes.
func sameDevices(t *testing.T, a, b *device.Device) {
	t.Helper()
	if a.Changes() != b.Changes() || a.Loose() != b.Loose() || a.Off() != b.Off() {
		t.Fatal("the devices differ")
	}
	for i := range a.Size() {
		x, e := a.Read(i)
		y, f := b.Read(i)
		if e != f || !bytes.Equal(x, y) {
			t.Fatalf("sector %d differs", i)
		}
	}
}
