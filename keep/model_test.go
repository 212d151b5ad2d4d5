package keep_test

import (
	"bytes"
	"math"
	"slices"
	"testing"

	"wardship/api"
	"wardship/device"
	"wardship/keep"
)

// rule gives numbers one after the other, by a plain rule from a seed.
type rule uint32

func (r *rule) below(n int) int {
	*r = *r*1664525 + 1013904223
	return int(*r>>8) % n
}

func (r *rule) choice() api.Choice {
	var kept []int
	for range r.below(4) {
		kept = append(kept, r.below(5)-1)
	}
	return api.Choice{Kept: kept, Torn: r.below(5) - 1, Half: r.below(90) - 5}
}

// changes is a few changes of a few keys, some of them long, or too long.
func (r *rule) changes() []api.Put {
	keys := []uint64{0, 1, 2, 255, 256, math.MaxUint64}
	var l []api.Put
	for range r.below(5) {
		n := r.below(40)
		switch r.below(30) {
		case 0, 1:
			n = r.below(300)
		case 2:
			n = r.below(2) + keep.MaxValue
		case 3:
			n = 0
		}
		l = append(l, api.Put{Key: keys[r.below(len(keys))], Val: []byte(noise(uint32(*r), n)), Gone: r.below(4) == 0})
	}
	return l
}

// model is what the chapters say of a store and its device, told anew.
type model struct {
	size    int
	laid    bool     // is there a valid tally?
	records [][]byte // what is durable
	found   contents
	off     bool
	after   int // below 0: no cut is planned
	choice  api.Choice
	open    bool // is there a store?
	broken  bool
	now     contents // what the store tells
	room    int
}

// run tells whether so many changes, of which the last two write a tally, are made without a cut, and whether the tally is durable.
func (m *model) run(changes int) (whole, durable bool) {
	if m.after < 0 || m.after >= changes {
		m.after = max(m.after-changes, -1)
		return true, true
	}
	last := m.after >= changes-2
	m.off, m.after = true, -1
	return false, last && (slices.Contains(m.choice.Kept, 0) || m.choice.Torn == 0 && m.choice.Half >= 64)
}

func (m *model) reopen() api.Errno {
	m.open = false
	if m.off {
		return api.ErrDown
	}
	if !m.laid {
		whole, durable := m.run(2)
		m.laid = durable
		if !whole {
			return api.ErrDown
		}
	}
	m.open, m.broken, m.now, m.room = true, false, m.found, m.size-len(stored(m.records...))
	return api.OK
}

func (m *model) commit(l []api.Put) api.Errno {
	if !m.open || m.broken {
		return api.ErrState
	}
	for _, p := range l {
		if len(p.Val) > 60000 {
			return api.ErrLong
		}
	}
	record, after := encoded(l...), m.now.after(l...)
	if len(l) == 0 {
		return api.OK
	}
	if len(record) > 65531 {
		return api.ErrLong
	}
	used := len(stored(m.records...))
	records := append(slices.Clone(m.records), record)
	if len(stored(records...)) > m.size {
		used, records = 0, after.records()
	}
	end := len(stored(records...))
	if end > m.size {
		return api.ErrFull
	}
	return m.write(records, after, used, end)
}

// write lets the records be these, of which the bytes from used to end are written.
func (m *model) write(records [][]byte, after contents, used, end int) api.Errno {
	changes := 3
	if end > used {
		changes = (end-1)/api.Sector - used/api.Sector + 4
	}
	if m.off {
		m.broken = true
		return api.ErrDown
	}
	whole, durable := m.run(changes)
	if durable {
		m.records, m.found = records, after
	}
	if !whole {
		m.broken = true
		return api.ErrDown
	}
	m.now, m.room = after, m.size-end
	return api.OK
}

// pair is a device and its store.
type pair struct {
	d *device.Device
	k *keep.Keep
}

// advance makes one call of both, by the rule, and tells whether they answer the same.
func advance(r *rule, p *pair, m *model) bool {
	switch r.below(24) {
	case 0:
		m.after, m.choice = max(r.below(12)-2, -1), r.choice()
		p.d.Plan(m.after, m.choice)
	case 1:
		if p.d.Cut(none()); !m.off {
			m.off, m.after = true, -1
		}
	case 2, 3, 4:
		was := m.off
		m.off = false
		return p.d.On() == was
	case 5, 6, 7, 8:
		k, e := keep.Open(p.d)
		p.k = k
		return e == m.reopen() && (e == api.OK) == (k != nil)
	default:
		l := r.changes()
		return p.k.Commit(l) == m.commit(l)
	}
	return true
}

// sameAnswers tells whether the store tells what the model does.
func sameAnswers(p *pair, m *model) bool {
	if !m.open {
		return p.k == nil && p.k.Broken() && len(p.k.Keys()) == 0 && p.k.Room() == 0
	}
	for _, key := range []uint64{0, 1, 2, 3, 255, 256, math.MaxUint64} {
		value, there := m.now[key]
		if got, ok := p.k.Get(key); ok != there || string(got) != value {
			return false
		}
	}
	return slices.Equal(p.k.Keys(), m.now.keys()) && p.k.Broken() == m.broken && p.k.Room() == m.room && p.d.Off() == m.off
}

// P5.1 to P5.3, P1, P2: long rows of calls, in any order, answer what the chapter says, and the same on a second device.
func TestCallsInAnyOrder(t *testing.T) {
	for seed := range 200 {
		sectors := 6 + seed%5
		first, second := rule(seed), rule(seed)
		a, b := &pair{d: create(t, sectors)}, &pair{d: create(t, sectors)}
		m, again := &model{size: (sectors - 2) / 2 * 256, after: -1}, &model{size: (sectors - 2) / 2 * 256, after: -1}
		for n := range 250 {
			if !advance(&first, a, m) || !sameAnswers(a, m) {
				t.Fatalf("seed %d: call %d differs", seed, n)
			}
			if !advance(&second, b, again) || !sameAnswers(b, again) {
				t.Fatalf("seed %d: call %d differs on a second device", seed, n)
			}
			sameDevices(t, a.d, b.d)
		}
	}
}

// sameDevices checks that two devices have had the same changes.
func sameDevices(t *testing.T, a, b *device.Device) {
	t.Helper()
	if a.Changes() != b.Changes() || a.Loose() != b.Loose() || a.Off() != b.Off() {
		t.Fatal("the devices differ")
	}
	if !a.Off() && !slices.EqualFunc(image(t, a), image(t, b), bytes.Equal) {
		t.Fatal("the sectors differ")
	}
}
