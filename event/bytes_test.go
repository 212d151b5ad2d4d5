package event_test

import (
	"bytes"
	"slices"
	"strings"
	"testing"

	"wardship/api"
	"wardship/event"
)

// reads checks what Read says.
func reads(t *testing.T, b []byte, want api.Event, wantErr api.Errno) {
	t.Helper()
	if got, err := event.Read(b); !same(got, want) || err != wantErr {
		t.Errorf("Read(%v) = %+v, %d, want %+v, %d", b, got, err, want, wantErr)
	}
}

// refused checks that Read has an error, and nothing beside it.
func refused(t *testing.T, b []byte, want api.Errno) {
	t.Helper()
	reads(t, b, api.Event{}, want)
}

// P8.3: events whose bytes are written out; the chapter's example is the first.
func TestKnownBytes(t *testing.T) {
	dep := api.Vec{2, 3}
	two := api.ID{Rep: 2, Seq: 4}
	for _, c := range []struct {
		e api.Event
		b []byte
	}{
		{api.Event{ID: id(2, 1), Kind: file, Name: "a"}, []byte{1, 2, 1, 1, 2, 0, 0, 1, 1, 0, 0, 1, 'a', 0, 0, 0, 0, 0}},
		{api.Event{ID: two, Dep: dep, Kind: dir, Dir: id(1, 2), Name: ".b"}, []byte{1, 2, 1, 4, 6, 3, 0, 1, 2, 1, 3, 1, 2, 0, 2, 1, 2, 2, '.', 'b', 0, 0, 0, 0, 0}},
		{api.Event{ID: two, Dep: dep, Kind: write, Obj: id(1, 1), Base: []api.ID{id(2, 3)}, Off: 5, Data: "hi"}, []byte{1, 2, 1, 4, 6, 3, 0, 1, 2, 1, 3, 1, 3, 2, 1, 1, 0, 0, 0, 3, 2, 2, 3, 1, 5, 2, 'h', 'i', 0}},
		{api.Event{ID: two, Dep: dep, Kind: trim, Obj: id(1, 1), Off: 200}, []byte{1, 2, 1, 4, 6, 3, 0, 1, 2, 1, 3, 1, 4, 2, 1, 1, 0, 0, 0, 0, 1, 200, 0, 0}},
		{api.Event{ID: two, Dep: dep, Kind: trim, Obj: id(1, 1)}, []byte{1, 2, 1, 4, 6, 3, 0, 1, 2, 1, 3, 1, 4, 2, 1, 1, 0, 0, 0, 0, 0, 0, 0}},
		{api.Event{ID: two, Dep: dep, Kind: fix, Obj: id(1, 1), Base: []api.ID{id(1, 2), id(2, 3)}, Data: "\x00"}, []byte{1, 2, 1, 4, 6, 3, 0, 1, 2, 1, 3, 1, 5, 2, 1, 1, 0, 0, 0, 6, 2, 1, 2, 2, 2, 3, 0, 1, 0, 0}},
		{api.Event{ID: two, Dep: dep, Kind: drop, Obj: id(1, 1), Gone: []api.ID{id(1, 1)}}, []byte{1, 2, 1, 4, 6, 3, 0, 1, 2, 1, 3, 1, 6, 2, 1, 1, 0, 0, 3, 2, 1, 1, 0, 0, 0, 0}},
		{api.Event{ID: two, Dep: dep, Kind: move, Obj: id(1, 1), Gone: []api.ID{id(2, 1)}, Dir: id(1, 2), Name: "c"}, []byte{1, 2, 1, 4, 6, 3, 0, 1, 2, 1, 3, 1, 7, 2, 1, 1, 2, 1, 2, 1, 'c', 3, 2, 2, 1, 0, 0, 0, 0}},
		{api.Event{ID: two, Dep: dep, Kind: seat, Ward: 4}, []byte{1, 2, 1, 4, 6, 3, 0, 1, 2, 1, 3, 1, 8, 0, 0, 0, 0, 0, 0, 0, 1, 4}},
		{api.Event{ID: two, Dep: dep, Kind: retire}, []byte{1, 2, 1, 4, 6, 3, 0, 1, 2, 1, 3, 1, 9, 0, 0, 0, 0, 0, 0, 0, 0}},
		{api.Event{ID: id(8, 1<<20), Dep: api.Vec{5: 300, 7: 1<<20 - 1}, Kind: retire}, []byte{1, 8, 3, 16, 0, 0, 9, 160, 0, 2, 1, 44, 3, 15, 255, 255, 1, 9, 0, 0, 0, 0, 0, 0, 0, 0}},
	} {
		got, err := event.Write(c.e)
		if !bytes.Equal(got, c.b) || err != api.OK {
			t.Errorf("Write(%+v) = %v, %d, want %v", c.e, got, err, c.b)
		}
		reads(t, c.b, c.e, api.OK)
	}
}

// P8.3: events with the greatest numbers, the longest lists, names and data.
func TestGreatestEvents(t *testing.T) {
	full := api.Vec{}
	for i := range full {
		full[i] = 1 << 20
	}
	var l []api.ID
	for i := range 8 {
		l = append(l, id(i%7+2, 1<<20-8+uint32(i)))
	}
	full[0]--
	e := api.Event{ID: id(1, 1<<20), Dep: full, Kind: fix, Obj: id(8, 1<<20), Base: l, Data: strings.Repeat("\xff", 200)}
	holds(t, e, true)
	if b, _ := event.Write(e); len(b) != 2+4+1+2+8*4+2+5+1+1+1+1+8*5+1+201+1 {
		t.Errorf("%d bytes", len(b))
	}
	e.Kind, e.Base, e.Data, e.Gone, e.Dir, e.Name = move, nil, "", l, id(8, 1<<20), "abcdefghijkl"
	holds(t, e, true)
}

// parts is the twelve fields of a valid event of a kind.
func parts(t *testing.T, e api.Event) [][]byte {
	t.Helper()
	b, err := event.Write(e)
	if err != api.OK {
		t.Fatalf("Write(%+v): %d", e, err)
	}
	fields, err := cutFields(b, 12)
	if err != api.OK || len(fields) != 12 {
		t.Fatalf("%+v has %d fields, %d", e, len(fields), err)
	}
	return fields
}

// The places of an event's fields.
const (
	atRep = iota
	atSeq
	atDep
	atKind
	atObj
	atDir
	atName
	atGone
	atBase
	atOff
	atData
	atWard
)

// wrongForms is bytes that each field can't be, whatever the event.
func wrongForms() map[int][][]byte {
	numbers := [][]byte{{0}, {0, 1}, {0, 2}, {0, 3}, {0, 0}, {0, 7}, bytes.Repeat([]byte{255}, 8), {1, 0, 0, 0, 0, 0, 0, 0, 1}, make([]byte, 9), {1, 0, 0, 0, 2}, {1, 0, 0, 0, 0}}
	oneID := [][]byte{{0}, {0, 0}, {1, 0}, {1, 0, 3}, {1, 16, 0, 1}, {1, 1, 0, 0, 0, 3}, bytes.Repeat([]byte{1}, 10), {0, 1}, {1}, {9, 1}, {1, 10}, {2, 5}}
	manyIDs := [][]byte{{1}, {2, 1}, {255}, {255, 0, 2, 1, 1}, {1, 0}, {3, 1, 0, 1}, {2, 1, 0}, {4, 1, 16, 0, 1}, bytes.Repeat([]byte{2, 1, 1}, 9), make([]byte, 9), {0}, {2, 1, 1, 0}, {2, 1, 1, 2, 1}}
	vectors := [][]byte{nil, {0}, {0, 1, 1, 1}, {2, 0, 1, 4, 0}, {2, 0, 1}, {2, 0, 2, 0, 4}, {2, 0, 0}, {2, 2, 1, 4}, {2, 0, 5, 1, 0, 0, 0, 4}, {6, 0, 1, 4, 3, 16, 0, 1}, {2, 0, 1, 3}, {2, 0, 1, 5}, {0, 0}, {4, 0, 1, 4}, make([]byte, 300)}
	texts := [][]byte{[]byte("."), []byte(".."), []byte("abcdefghijklm"), []byte("a/b"), {0}, {255}, []byte("é"), make([]byte, 255), make([]byte, 65535)}
	long := [][]byte{make([]byte, 201), make([]byte, 254), make([]byte, 255), make([]byte, 65535)}
	return map[int][][]byte{
		atRep: append(numbers, nil, []byte{9}, []byte{1}, []byte{1, 2}), atSeq: append(numbers, nil, []byte{4}, []byte{6}, []byte{1, 5}, []byte{16, 0, 1}), atDep: vectors,
		atKind: append(numbers, nil, []byte{10}, []byte{1, 3}), atObj: oneID, atDir: oneID, atName: texts, atGone: manyIDs, atBase: manyIDs,
		atOff: append(numbers, []byte{201}, []byte{1, 0}, []byte{1, 7}), atData: long, atWard: append(numbers, []byte{5}, []byte{1, 3}),
	}
}

// P8.3: each field of wrong form in turn, for each kind: ErrForm, whatever error the layer below has for it.
func TestEachFieldOfWrongForm(t *testing.T) {
	forms := wrongForms()
	for kind := 1; kind <= 9; kind++ {
		fields := parts(t, valid(kind))
		for at := range 12 {
			for _, wrong := range forms[at] {
				bad := slices.Clone(fields)
				bad[at] = wrong
				refused(t, pack(bad...), api.ErrForm)
			}
		}
		reads(t, pack(fields...), valid(kind), api.OK)
	}
}

// P8.3: a Dep of wrong form is ErrForm, also where the event would be valid with the zero vector in its place.
func TestDepOfWrongForm(t *testing.T) {
	for _, e := range []api.Event{
		{ID: id(2, 1), Kind: file, Name: "a"},
		{ID: id(1, 1), Kind: seat, Ward: 1},
		{ID: id(8, 1), Kind: retire},
	} {
		fields := parts(t, e)
		for _, dep := range [][]byte{
			nil, {0}, {0, 1}, {1, 1}, {1, 1, 1, 1}, {8, 8, 1, 1}, {0, 1, 1, 1}, {0, 8, 1, 1}, {0, 128, 1, 1}, {8, 0}, {8, 0, 1}, {8, 0, 2, 1}, {8, 0, 0}, {8, 0, 1, 0}, {8, 0, 2, 0, 1},
			{8, 0, 5, 1, 0, 0, 0, 0}, {8, 0, 8, 1, 0, 0, 0, 0, 0, 0, 0}, {8, 0, 9, 1, 0, 0, 0, 0, 0, 0, 0, 0}, {0, 0, 0}, {0, 0, 1, 1}, {8, 0, 1, 1, 0}, {8, 0, 3, 16, 0, 1}, {8, 0, 4, 255, 255, 255, 255},
		} {
			bad := slices.Clone(fields)
			bad[atDep] = dep
			refused(t, pack(bad...), api.ErrForm)
		}
		reads(t, pack(fields...), e, api.OK)
		e.Dep[3] = 1
		fields[atDep] = []byte{8, 0, 1, 1}
		reads(t, pack(fields...), e, api.OK)
	}
}

// P8.3: fewer than twelve fields are ErrCut, more are ErrLong, whatever is in them.
func TestTooFewAndTooManyFields(t *testing.T) {
	refused(t, nil, api.ErrCut)
	refused(t, []byte{}, api.ErrCut)
	for kind := 1; kind <= 9; kind++ {
		fields := parts(t, valid(kind))
		for n := range 12 {
			refused(t, pack(fields[:n]...), api.ErrCut)
			refused(t, pack(fields[12-n:]...), api.ErrCut)
		}
		for _, more := range [][]byte{{}, {0}, {1}, make([]byte, 255), make([]byte, 65535)} {
			refused(t, pack(append(slices.Clone(fields), more)...), api.ErrLong)
			refused(t, pack(append([][]byte{more}, fields...)...), api.ErrLong)
			refused(t, pack(append(slices.Clone(fields), more, nil)...), api.ErrLong)
		}
	}
	for n := range 20 {
		want := api.ErrForm
		if n < 12 {
			want = api.ErrCut
		}
		if n > 12 {
			want = api.ErrLong
		}
		refused(t, make([]byte, n), want)
		refused(t, bytes.Repeat([]byte{1, 0}, n), want)
		refused(t, bytes.Repeat(pack(make([]byte, 65535)), n), want)
	}
}

// P8.3: wherever an event's bytes are cut, Read has ErrCut, between two fields as within one.
func TestCutBytes(t *testing.T) {
	for kind := 1; kind <= 9; kind++ {
		b, _ := event.Write(valid(kind))
		for n := range b {
			refused(t, b[:n], api.ErrCut)
		}
	}
}

// P8.3: of two faults, what Unpack says comes first, then that fields are missing, then what they say.
func TestTwoFaults(t *testing.T) {
	cut, form := []byte{2, 1}, []byte{255, 0, 1, 5}
	for kind := 1; kind <= 9; kind++ {
		fields := parts(t, valid(kind))
		wrong := slices.Clone(fields)
		wrong[atSeq] = []byte{0, 5}
		for _, l := range [][][]byte{fields, wrong} {
			whole := pack(l...)
			refused(t, append(slices.Clone(whole), cut...), api.ErrCut)
			refused(t, append(slices.Clone(whole), form...), api.ErrForm)
			refused(t, slices.Concat(whole, []byte{0}, cut), api.ErrLong)
			refused(t, slices.Concat(whole, []byte{0}, form), api.ErrLong)
			refused(t, pack(append(slices.Clone(l), nil)...), api.ErrLong)
			for n := range 12 {
				refused(t, pack(l[:n]...), api.ErrCut)
				refused(t, append(pack(l[:n]...), cut...), api.ErrCut)
				refused(t, append(pack(l[:n]...), form...), api.ErrForm)
				refused(t, slices.Concat(pack(l[:n]...), form, pack(l[n:]...)), api.ErrForm)
				refused(t, slices.Concat(pack(l[:n]...), form, cut), api.ErrForm)
			}
		}
	}
}

// P8.3: each pair of fields of wrong form is ErrForm.
func TestTwoFieldsOfWrongForm(t *testing.T) {
	forms := wrongForms()
	for kind := 1; kind <= 9; kind++ {
		fields := parts(t, valid(kind))
		for at := range 12 {
			for other := range at {
				bad := slices.Clone(fields)
				bad[at] = forms[at][kind%len(forms[at])]
				bad[other] = forms[other][(kind+at)%len(forms[other])]
				refused(t, pack(bad...), api.ErrForm)
			}
		}
	}
}

// P8.3: the right form of an event that isn't valid.
func TestFormsOfWrongEvents(t *testing.T) {
	for kind := 1; kind <= 9; kind++ {
		fields := parts(t, valid(kind))
		for _, c := range []struct {
			at int
			b  []byte
		}{
			{atRep, []byte{3}}, {atSeq, []byte{6}}, {atDep, []byte{2, 0, 1, 5}}, {atDep, []byte{0, 0}}, {atKind, nil}, {atKind, []byte{10}}, {atObj, []byte{7, 1}}, {atDir, []byte{2, 5}},
			{atName, []byte("a b")}, {atGone, []byte{2, 2, 1, 2, 1, 1}}, {atBase, []byte{2, 2, 1, 2, 1, 1}}, {atOff, []byte{201}}, {atOff, []byte{16, 0, 0}}, {atData, make([]byte, 201)}, {atWard, []byte{5}},
		} {
			bad := slices.Clone(fields)
			bad[c.at] = c.b
			refused(t, pack(bad...), api.ErrForm)
		}
	}
}

// grown is the vector relative to the zero vector whose bytes b are, told anew.
func grown(b []byte) (v api.Vec, ok bool) {
	if len(b) < 2 || b[1] != 0 {
		return api.Vec{}, false
	}
	marks, b := b[0], b[2:]
	for i := range v {
		if marks>>i%2 == 0 {
			continue
		}
		if len(b) == 0 || len(b) <= int(b[0]) {
			return api.Vec{}, false
		}
		n, ok := expectNum(b[1:1+b[0]], 1<<32-1)
		if !ok || n == 0 {
			return api.Vec{}, false
		}
		v[i], b = uint32(n), b[1+b[0]:]
	}
	return v, len(b) == 0
}

// expectRead is what the chapter says of Read(b), told anew.
func expectRead(b []byte) (api.Event, api.Errno) {
	f, err := cutFields(b, 12)
	if err != api.OK {
		return api.Event{}, err
	}
	if len(f) < 12 {
		return api.Event{}, api.ErrCut
	}
	var e api.Event
	var ok [8]bool
	var numbers [5]int
	for i, at := range []int{atRep, atSeq, atKind, atOff, atWard} {
		numbers[i], ok[i] = expectNum(f[at], 1<<20)
	}
	e.ID, e.Kind, e.Off, e.Ward = id(numbers[0], uint32(numbers[1])), numbers[2], numbers[3], numbers[4]
	e.Dep, ok[5] = grown(f[atDep])
	e.Obj, ok[6] = expectID(f[atObj])
	e.Dir, ok[7] = expectID(f[atDir])
	e.Name, e.Data = string(f[atName]), string(f[atData])
	var errGone, errBase api.Errno
	e.Gone, errGone = expectIDs(f[atGone], 8)
	e.Base, errBase = expectIDs(f[atBase], 8)
	if slices.Contains(ok[:], false) || errGone != api.OK || errBase != api.OK || !expectCheck(e) {
		return api.Event{}, api.ErrForm
	}
	return e, api.OK
}

// asExpected checks Read against the chapter's words told anew, and that no two forms are read as one event.
func asExpected(t *testing.T, b []byte) api.Errno {
	t.Helper()
	want, wantErr := expectRead(b)
	reads(t, b, want, wantErr)
	if wantErr != api.OK {
		return wantErr
	}
	if again, err := event.Write(want); err != api.OK || !bytes.Equal(again, b) {
		t.Errorf("Write(%+v) = %v, %d, and not %v", want, again, err, b)
	}
	return api.OK
}

// P8.3, P8.4: each change of a byte of an event, each byte that goes, and some that come.
func TestReadOfAllNearBytes(t *testing.T) {
	found := map[api.Errno]int{}
	for kind := 1; kind <= 9; kind++ {
		b, _ := event.Write(valid(kind))
		for i := range b {
			for x := range 256 {
				near := slices.Clone(b)
				near[i] = byte(x)
				found[asExpected(t, near)]++
			}
			found[asExpected(t, slices.Delete(slices.Clone(b), i, i+1))]++
			for _, x := range []byte{0, 1, 2, 3, 'a', 255} {
				found[asExpected(t, slices.Insert(slices.Clone(b), i, x))]++
			}
		}
	}
	for _, err := range []api.Errno{api.OK, api.ErrCut, api.ErrForm, api.ErrLong} {
		if found[err] < 100 {
			t.Errorf("only %d of the bytes have the error %d", found[err], err)
		}
	}
}

// P8.3, P8.4: each field in the place of each one, of each kind.
func TestReadOfMixedFields(t *testing.T) {
	for kind := 1; kind <= 9; kind++ {
		for other := 1; other <= 9; other++ {
			from := parts(t, valid(other))
			for at := range 12 {
				for source := range 12 {
					fields := parts(t, valid(kind))
					fields[at] = from[source]
					asExpected(t, pack(fields...))
				}
			}
		}
	}
}

// P8.4: what is written is read back, and unlike events have unlike bytes.
func TestUnlikeEvents(t *testing.T) {
	seen := map[string]api.Event{}
	add := func(e api.Event) {
		b, err := event.Write(e)
		if err != api.OK {
			return
		}
		if other, ok := seen[string(b)]; ok && !same(other, e) {
			t.Fatalf("%+v and %+v have one form", e, other)
		}
		seen[string(b)] = e
		if back, err := event.Read(b); err != api.OK || !same(back, e) || !event.Same(back, e) {
			t.Fatalf("%+v is read back as %+v, %d", e, back, err)
		}
	}
	mixed(add)
	for kind := 1; kind <= 9; kind++ {
		for i := range 8 {
			for _, n := range []uint32{0, 1, 255, 256, 65536, 1 << 20} {
				e := valid(kind)
				e.Dep[i] = n
				add(e)
				e.ID = id(i+1, n+1)
				add(e)
			}
		}
	}
	if len(seen) < 500 {
		t.Errorf("only %d events were written", len(seen))
	}
}
