package state_test

import (
	"bytes"
	"math"
	"slices"
	"strings"
	"testing"

	"wardship/api"
	"wardship/codec"
	"wardship/state"
)

// isForm checks that bytes are refused.
func isForm(t *testing.T, what string, b []byte) {
	t.Helper()
	got, err := state.Read(b)
	if err != api.ErrForm || !same(got, api.State{}) || got.Objects != nil || got.Entries != nil {
		t.Fatalf("%s: %+v, %d", what, got, err)
	}
}

// isOneForm checks bytes of which nothing is known: they are refused, or they are those of a state whose lists are in order.
func isOneForm(t *testing.T, b []byte) {
	t.Helper()
	was := slices.Clone(b)
	got, err := state.Read(b)
	if err != api.OK {
		isForm(t, "bytes", b)
	} else if again := state.Write(got); !bytes.Equal(again, b) || !ordered(got) {
		t.Fatalf("%v are read as %+v, which has the bytes %v", b, got, again)
	}
	if !bytes.Equal(b, was) {
		t.Fatalf("%v became %v", was, b)
	}
}

// ordered tells whether a state's lists are in order, told anew.
func ordered(s api.State) bool {
	rises := func(l []api.ID) bool {
		for i := range l {
			if i > 0 && byNumber(l[i-1], l[i]) >= 0 {
				return false
			}
		}
		return true
	}
	for _, o := range s.Objects {
		if !rises(versions(s, o.ID)) {
			return false
		}
	}
	var entries []api.ID
	for _, x := range s.Entries {
		entries = append(entries, x.ID)
	}
	return rises(objects(s)) && rises(entries)
}

// isReadBack checks that a state is read from its bytes as it is, and that neither call changes what it is given.
func isReadBack(t *testing.T, what string, s api.State) {
	t.Helper()
	was := copyOf(s)
	b := state.Write(s)
	wasB := slices.Clone(b)
	got, err := state.Read(b)
	if err != api.OK {
		t.Fatalf("%s: %d", what, err)
	}
	isState(t, what, got, was)
	isState(t, what+": what was handed in", s, was)
	if !bytes.Equal(b, wasB) || !bytes.Equal(state.Write(s), wasB) || !bytes.Equal(state.Write(got), wasB) {
		t.Fatalf("%s: bytes differ", what)
	}
}

// P12.3: states of each kind of event, and of some together, are read as they were; nil and empty lists have the same bytes.
func TestReadBack(t *testing.T) {
	var s api.State
	isReadBack(t, "the zero state", s)
	for _, e := range story() {
		s = applied(t, s, e)
		isReadBack(t, "a part of the story", s)
	}
	for _, k := range kinds() {
		isReadBack(t, k.name, applied(t, ground(t), on(3, api.Vec{7}, k.e)))
	}
	for kind := 1; kind <= 2; kind++ {
		isReadBack(t, "one object", applied(t, api.State{}, api.Event{ID: id(8, 1), Kind: kind, Name: "twelve.bytes"}))
	}
	isReadBack(t, "many objects and versions", large())
	empty := api.State{Objects: []api.Object{}, Entries: []api.Entry{}}
	if !bytes.Equal(state.Write(empty), state.Write(api.State{})) {
		t.Error("empty lists have other bytes than none")
	}
	one, other := api.State{Objects: []api.Object{{}}}, api.State{Objects: []api.Object{{Versions: []api.Version{}}}}
	if !bytes.Equal(state.Write(one), state.Write(other)) {
		t.Error("an empty list of versions has other bytes than none")
	}
}

// P12.3: a file with 200 versions, each as long as may be, all of them the latest, or all but one replaced; and one with more.
func TestManyVersions(t *testing.T) {
	for _, count := range []int{1, 199, 200, 201, 300} {
		for _, heads := range []bool{true, false} {
			s := applied(t, api.State{}, api.Event{ID: id(1, 1), Kind: api.KindFile, Name: "a"})
			for n := range count {
				e := on(1, s.Known, api.Event{Kind: api.KindWrite, Obj: id(1, 1), Data: strings.Repeat(string(rune('a'+n%26)), 200)})
				if !heads && n > 0 {
					e.Base = ids(id(1, s.Known[0]))
				}
				next, err := state.Apply(s, e)
				if err != api.OK {
					t.Fatal(err)
				}
				s = next
			}
			isReadBack(t, "a file with many versions", s)
			b := state.Write(s)
			for i := range s.Objects[0].Versions {
				other := copyOf(s)
				other.Objects[0].Versions[i].Data = other.Objects[0].Versions[i].Data[1:]
				if bytes.Equal(state.Write(other), b) {
					t.Fatalf("the version %d of %d isn't in the bytes", i, count)
				}
			}
		}
	}
}

// P12.3: states that are unlike in one field have unlike bytes, and each is read as it is.
func TestUnlike(t *testing.T) {
	seen := map[string]api.State{string(state.Write(told())): told()}
	for _, c := range changes() {
		s := changed(t, c)
		isReadBack(t, c.name, s)
		b := string(state.Write(s))
		if other, there := seen[b]; there && !same(other, s) {
			t.Errorf("%s: the bytes of\n%+v, and of\n%+v", c.name, s, other)
		}
		seen[b] = s
	}
}

// P12.3: all that a field can hold is in the bytes: numbers at both ends, texts that look like what comes behind them.
func TestFarFields(t *testing.T) {
	far := []int{math.MinInt, -256, -1, 0, 1, 8, 9, 255, 256, 257, 1 << 16, 1 << 32, math.MaxInt}
	sequences := []uint32{0, 1, 255, 256, 1 << 16, 1 << 20, 1<<20 + 1, 1 << 31, math.MaxUint32}
	texts := []string{"", "\x00", "\x00\x00", "a", "\xff", strings.Repeat("a", 199), strings.Repeat("\x00", 200), strings.Repeat("\xff", 254), strings.Repeat("b", 255), strings.Repeat("b", 256), strings.Repeat("c", 65535)}
	seen := map[string]api.State{}
	see := func(change func(s *api.State)) {
		s := told()
		change(&s)
		isReadBack(t, "a state with a far field", s)
		b := string(state.Write(s))
		if other, there := seen[b]; there && !same(other, s) {
			t.Errorf("the bytes of\n%+v, and of\n%+v", s, other)
		}
		seen[b] = s
	}
	for _, n := range far {
		see(func(s *api.State) { s.Wards[0] = n })
		see(func(s *api.State) { s.Wards[7] = n })
		see(func(s *api.State) { s.Objects[2].Last.Rep = n })
		see(func(s *api.State) { s.Entries[1].Dir.Rep = n })
		see(func(s *api.State) { s.Entries[1].Obj.Rep = n })
	}
	for _, n := range sequences {
		see(func(s *api.State) { s.Known[4] = n })
		see(func(s *api.State) { s.Objects[1].Seen[7] = n })
		see(func(s *api.State) { s.Objects[2].Last.Seq = n })
		see(func(s *api.State) { s.Entries[1].Dir.Seq = n })
		see(func(s *api.State) { s.Entries[1].Obj.Seq = n })
		see(func(s *api.State) { s.Entries[1].By[6] = n })
	}
	for _, text := range texts {
		see(func(s *api.State) { s.Objects[1].Name = text })
		see(func(s *api.State) { s.Objects[2].Versions[2].Data = text })
		see(func(s *api.State) { s.Entries[0].Name = text })
	}
}

// disorders are states with lists that aren't in order, or hold a number twice.
func disorders() []change {
	v := func(s *api.State) []api.Version { return s.Objects[2].Versions }
	l := []change{
		{"objects turned round", func(s *api.State) { slices.Reverse(s.Objects) }},
		{"entries turned round", func(s *api.State) { slices.Reverse(s.Entries) }},
		{"versions turned round", func(s *api.State) { slices.Reverse(v(s)) }},
		{"the last object twice", func(s *api.State) { s.Objects = append(s.Objects, s.Objects[2]) }},
		{"the last entry twice", func(s *api.State) { s.Entries = append(s.Entries, s.Entries[4]) }},
		{"the last version twice", func(s *api.State) { s.Objects[2].Versions = append(v(s), v(s)[3]) }},
		{"the first object at the end", func(s *api.State) { s.Objects = append(s.Objects[1:], s.Objects[0]) }},
		{"objects in the order of their replicas", func(s *api.State) { s.Objects[0].ID, s.Objects[1].ID = id(1, 2), id(2, 1) }},
	}
	for i := range 4 {
		l = append(l, change{"entries swapped", func(s *api.State) { s.Entries[i], s.Entries[i+1] = s.Entries[i+1], s.Entries[i] }},
			change{"an entry's number twice", func(s *api.State) { s.Entries[i].ID = s.Entries[i+1].ID }})
	}
	for i := range 3 {
		l = append(l, change{"versions swapped", func(s *api.State) { v(s)[i], v(s)[i+1] = v(s)[i+1], v(s)[i] }},
			change{"a version's number twice", func(s *api.State) { v(s)[i].ID = v(s)[i+1].ID }})
	}
	for i := range 2 {
		l = append(l, change{"objects swapped", func(s *api.State) { s.Objects[i], s.Objects[i+1] = s.Objects[i+1], s.Objects[i] }},
			change{"an object's number twice", func(s *api.State) { s.Objects[i].ID = s.Objects[i+1].ID }})
	}
	return l
}

// P12.3: lists that aren't in order, or hold a number twice, are refused, also the versions of an object that isn't the last.
func TestDisorderedBytes(t *testing.T) {
	for _, c := range disorders() {
		s := changed(t, c)
		isForm(t, c.name, state.Write(s))
	}
	s := told()
	s.Objects[0].Versions = []api.Version{{ID: id(2, 2)}, {ID: id(1, 2)}}
	isForm(t, "versions of the first object", state.Write(s))
	slices.Reverse(s.Objects[0].Versions)
	isReadBack(t, "versions in order", s)
}

// samples are states of different sizes.
func samples(t *testing.T) []api.State {
	t.Helper()
	one := applied(t, api.State{}, api.Event{ID: id(2, 1), Kind: api.KindFile, Name: "a"})
	long := ground(t)
	long = applied(t, long, on(2, long.Known, api.Event{Kind: api.KindFix, Obj: file, Base: ids(first, second), Data: strings.Repeat("long", 50)}))
	return []api.State{{}, one, told(), ground(t), long}
}

// P12.3: bytes that are cut off anywhere, no bytes, and bytes with one more, whichever, are refused.
func TestCutBytes(t *testing.T) {
	isForm(t, "no bytes", nil)
	isForm(t, "no bytes", []byte{})
	for _, s := range samples(t) {
		b := state.Write(s)
		for n := range b {
			isForm(t, "bytes that are cut off", b[:n])
			isForm(t, "a copy of bytes that are cut off", slices.Clone(b[:n]))
			isOneForm(t, b[n+1:])
		}
		for x := range 256 {
			isForm(t, "a byte more", append(slices.Clone(b), byte(x)))
		}
	}
}

// P12.3: bytes of which one is turned, left out or put in between are refused, or those of another state.
func TestTurnedBytes(t *testing.T) {
	for _, s := range samples(t) {
		b := state.Write(s)
		for i := range b {
			for x := range 256 {
				turned := slices.Clone(b)
				turned[i] = byte(x)
				isOneForm(t, turned)
			}
			isOneForm(t, slices.Delete(slices.Clone(b), i, i+1))
			isOneForm(t, slices.Insert(slices.Clone(b), i, 0))
			isOneForm(t, slices.Insert(slices.Clone(b), i, 1, 1))
		}
	}
}

// P12.3: fields that are of no form where they stand, or of another form of the same, are refused, or those of another state.
func TestTurnedFields(t *testing.T) {
	odd := [][]byte{nil, {0}, {1}, {2}, {255}, {0, 0}, {0, 1}, {1, 0}, {0, 0, 0}, {1, 1, 1, 1}, {1, 0, 1, 1}, {1, 0, 2, 0, 1}, {1, 0, 1, 0},
		{1, 0, 0, 0}, {1, 0, 0, 0, 0}, {255, 255, 255, 255}, {127, 255, 255, 255, 255, 255, 255, 255}, bytes.Repeat([]byte{255}, 8), bytes.Repeat([]byte{1}, 9), bytes.Repeat([]byte{0}, 300)}
	for _, s := range samples(t) {
		fields, err := codec.Unpack(state.Write(s), 1<<20)
		if err != api.OK {
			t.Fatal(err)
		}
		for i := range fields {
			for _, x := range odd {
				turned := slices.Clone(fields)
				turned[i] = x
				isOneForm(t, packed(t, turned))
				isOneForm(t, packed(t, slices.Insert(slices.Clone(fields), i, x)))
			}
			isForm(t, "a field less", packed(t, slices.Delete(slices.Clone(fields), len(fields)-1-i%2, len(fields))))
			isOneForm(t, packed(t, slices.Delete(slices.Clone(fields), i, i+1)))
		}
	}
}

// packed is fields as bytes.
func packed(t *testing.T, fields [][]byte) []byte {
	t.Helper()
	b, err := codec.Pack(fields...)
	if err != api.OK {
		t.Fatal(err)
	}
	return b
}

// P12.3: all pairs of some results of events have unlike bytes, unless they are one.
func TestBytesOfHistories(t *testing.T) {
	seen := map[string]api.State{}
	for seed := range dice(60) {
		d := seed * 991
		for _, x := range d.history(t, 25) {
			for n := range len(x.log) + 1 {
				s := result(x.log[:n])
				isReadBack(t, "a state by chance", s)
				b := string(state.Write(s))
				if other, there := seen[b]; there && !same(other, s) {
					t.Fatalf("the bytes of %+v, and of %+v", s, other)
				}
				seen[b] = s
			}
		}
	}
}
