package codec_test

import (
	"bytes"
	"iter"
	"math"
	"slices"
	"testing"

	"wardship/api"
	"wardship/codec"
)

// filled is a field of n bytes that aren't all alike.
func filled(n int) []byte {
	b := make([]byte, n)
	for i := range b {
		b[i] = byte(i*7 + i>>8 + 1)
	}
	return b
}

// step is what an iterator yields at once.
type step struct {
	field []byte
	e     api.Errno
}

// steps is all that an iterator yields.
func steps(seq iter.Seq2[[]byte, api.Errno]) []step {
	var l []step
	for f, e := range seq {
		l = append(l, step{f, e})
	}
	return l
}

func sameSteps(a, b []step) bool {
	return slices.EqualFunc(a, b, func(x, y step) bool { return x.e == y.e && bytes.Equal(x.field, y.field) })
}

func sameLists(a, b [][]byte) bool { return slices.EqualFunc(a, b, bytes.Equal) }

// P1.2: a length below 255 is one byte, another one 255 and two bytes.
func TestPackLengths(t *testing.T) {
	for _, c := range []struct {
		size   int
		length []byte
	}{
		{0, []byte{0}},
		{1, []byte{1}},
		{253, []byte{253}},
		{254, []byte{254}},
		{255, []byte{255, 0, 255}},
		{256, []byte{255, 1, 0}},
		{300, []byte{255, 1, 44}},
		{65534, []byte{255, 255, 254}},
		{65535, []byte{255, 255, 255}},
	} {
		field := filled(c.size)
		got, e := codec.Pack(field)
		if e != api.OK || !bytes.Equal(got, slices.Concat(c.length, field)) {
			t.Errorf("Pack of %d bytes: %d, begins with %v", c.size, e, got[:min(4, len(got))])
		}
		back, e := codec.Unpack(got, 1)
		if e != api.OK || !sameLists(back, [][]byte{field}) {
			t.Errorf("Unpack of a field of %d bytes: %d", c.size, e)
		}
	}
}

// P1.2: the fields come one after the other, as many as there are.
func TestPackLists(t *testing.T) {
	for _, c := range []struct {
		fields [][]byte
		want   []byte
	}{
		{nil, nil},
		{[][]byte{nil}, []byte{0}},
		{[][]byte{{}, nil, {}}, []byte{0, 0, 0}},
		{[][]byte{[]byte("a"), {}}, []byte{1, 97, 0}},
		{[][]byte{{}, []byte("a")}, []byte{0, 1, 97}},
		{[][]byte{[]byte("ab"), []byte("c")}, []byte{2, 97, 98, 1, 99}},
	} {
		if got, e := codec.Pack(c.fields...); e != api.OK || !bytes.Equal(got, c.want) {
			t.Errorf("Pack(%v) = %v, %d, want %v", c.fields, got, e, c.want)
		}
	}
}

// P1.2: Pack refuses a field of more than MaxField bytes, wherever it is; rule 2: there are no bytes beside the error.
func TestPackLong(t *testing.T) {
	long := make([]byte, api.MaxField+1)
	short := []byte("a")
	for _, l := range [][][]byte{{long}, {long, short}, {short, long}, {short, long, short}, {nil, long, long}, {make([]byte, 1<<20)}} {
		if b, e := codec.Pack(l...); len(b) != 0 || e != api.ErrLong {
			t.Errorf("Pack with a long field: %d bytes, %d", len(b), e)
		}
	}
}

// fieldCases are bytes, and what Fields yields of them.
func fieldCases() []struct {
	b    []byte
	want []step
} {
	seven := step{[]byte{7}, api.OK}
	none := step{nil, api.OK}
	cut := step{nil, api.ErrCut}
	form := step{nil, api.ErrForm}
	return []struct {
		b    []byte
		want []step
	}{
		{nil, nil},
		{[]byte{}, nil},
		{[]byte{0}, []step{none}},
		{[]byte{1, 7, 0}, []step{seven, none}},
		{[]byte{1, 7, 0, 5}, []step{seven, none, cut}},
		// a length that is cut
		{[]byte{255}, []step{cut}},
		{[]byte{255, 0}, []step{cut}},
		{[]byte{255, 1}, []step{cut}},
		{[]byte{1, 7, 255, 255}, []step{seven, cut}},
		// a length in three bytes that one byte could hold, with and without the bytes of its field
		{[]byte{255, 0, 0}, []step{form}},
		{[]byte{255, 0, 3}, []step{form}},
		{[]byte{255, 0, 3, 1, 2, 3}, []step{form}},
		{[]byte{255, 0, 254}, []step{form}},
		{slices.Concat([]byte{255, 0, 254}, filled(254)), []step{form}},
		{[]byte{1, 7, 255, 0, 1, 1, 7}, []step{seven, form}},
		// a field that is cut
		{[]byte{1}, []step{cut}},
		{[]byte{2, 1}, []step{cut}},
		{[]byte{255, 0, 255}, []step{cut}},
		{[]byte{255, 255, 255}, []step{cut}},
		{slices.Concat([]byte{254}, filled(253)), []step{cut}},
		{slices.Concat([]byte{255, 0, 255}, filled(254)), []step{cut}},
		{slices.Concat([]byte{255, 255, 255}, filled(65534)), []step{cut}},
		// fields at the edges
		{slices.Concat([]byte{254}, filled(254)), []step{{filled(254), api.OK}}},
		{slices.Concat([]byte{255, 0, 255}, filled(255)), []step{{filled(255), api.OK}}},
		{slices.Concat([]byte{255, 255, 255}, filled(65535), []byte{0}), []step{{filled(65535), api.OK}, none}},
		{slices.Concat([]byte{255, 1, 0}, filled(256), []byte{1, 7}), []step{{filled(256), api.OK}, seven}},
		{slices.Concat([]byte{254}, filled(254), []byte{9}), []step{{filled(254), api.OK}, cut}},
	}
}

// P1.2: Fields yields each field with OK, then the error, if there is one, without bytes, and ends.
func TestFieldsYields(t *testing.T) {
	for _, c := range fieldCases() {
		if got := steps(codec.Fields(c.b)); !sameSteps(got, c.want) {
			t.Errorf("Fields of %v.. (%d bytes) yields %d steps: %v", c.b[:min(6, len(c.b))], len(c.b), len(got), got)
		}
	}
}

// P1.2: Fields may be ranged over any number of times, also while it is being ranged over.
func TestFieldsAgain(t *testing.T) {
	seq := codec.Fields([]byte{1, 7, 0, 5})
	want := []step{{[]byte{7}, api.OK}, {nil, api.OK}, {nil, api.ErrCut}}
	for range 3 {
		var outer []step
		for f, e := range seq {
			outer = append(outer, step{f, e})
			if inner := steps(seq); !sameSteps(inner, want) {
				t.Errorf("an inner pass yields %v", inner)
			}
		}
		if !sameSteps(outer, want) {
			t.Errorf("an outer pass yields %v", outer)
		}
	}
}

// P1.2, rule 7: Fields ends when its consumer stops, at a field and at an error, and begins from the front again.
func TestFieldsStops(t *testing.T) {
	seq := codec.Fields([]byte{1, 7, 0, 1, 8, 255})
	for most := 1; most <= 4; most++ {
		calls := 0
		seq(func(f []byte, e api.Errno) bool {
			calls++
			if calls == 1 && !bytes.Equal(f, []byte{7}) {
				t.Errorf("a pass begins with %v", f)
			}
			return calls < most
		})
		if calls != most {
			t.Errorf("a consumer that stops at %d was called %d times", most, calls)
		}
	}
	calls := 0
	seq(func([]byte, api.Errno) bool { calls++; return true })
	if calls != 4 {
		t.Errorf("a consumer that never stops was called %d times", calls)
	}
}

// Rule 7: an iterator over nothing is none the less one.
func TestFieldsIsNeverNil(t *testing.T) {
	if codec.Fields(nil) == nil || codec.Fields([]byte{}) == nil || codec.Fields([]byte{255}) == nil {
		t.Error("Fields is nil")
	}
}

// P1.2: Unpack is all fields, if they are at most most; the error of a field comes ahead of ErrLong, field by field.
func TestUnpack(t *testing.T) {
	a := []byte{7}
	for _, c := range []struct {
		b    []byte
		most int
		want [][]byte
		e    api.Errno
	}{
		{nil, 0, nil, api.OK},
		{nil, -1, nil, api.OK},
		{nil, math.MinInt, nil, api.OK},
		{[]byte{0}, 1, [][]byte{nil}, api.OK},
		{[]byte{1, 7, 0}, 2, [][]byte{a, nil}, api.OK},
		{[]byte{1, 7, 0}, 3, [][]byte{a, nil}, api.OK},
		{[]byte{1, 7, 0}, math.MaxInt, [][]byte{a, nil}, api.OK},
		{[]byte{1, 7, 0}, 1, nil, api.ErrLong},
		{[]byte{1, 7, 0}, 0, nil, api.ErrLong},
		{[]byte{1, 7, 0}, -1, nil, api.ErrLong},
		{[]byte{0}, math.MinInt, nil, api.ErrLong},
		{[]byte{1, 7, 5}, 2, nil, api.ErrCut},
		// the field behind most has an error of its own
		{[]byte{1, 7, 5}, 1, nil, api.ErrCut},
		{[]byte{1, 7, 255}, 1, nil, api.ErrCut},
		{[]byte{1, 7, 255, 0, 9}, 1, nil, api.ErrForm},
		{[]byte{5}, 0, nil, api.ErrCut},
		{[]byte{255, 0, 9}, -1, nil, api.ErrForm},
		// a field too many comes ahead of one with an error
		{[]byte{1, 7, 0, 5}, 1, nil, api.ErrLong},
		{[]byte{1, 7, 0, 255, 0, 9}, 1, nil, api.ErrLong},
		{[]byte{1, 7, 5}, 0, nil, api.ErrLong},
		{[]byte{255, 0, 254, 1}, 9, nil, api.ErrForm},
	} {
		got, e := codec.Unpack(c.b, c.most)
		if e != c.e || !sameLists(got, c.want) {
			t.Errorf("Unpack(%v, %d) = %v, %d, want %v, %d", c.b, c.most, got, e, c.want, c.e)
		}
	}
}

// Rule 4: Pack neither changes nor keeps a field, and doesn't touch what lies behind its end.
func TestPackSharesNothing(t *testing.T) {
	all := []byte("abcd")
	fields := [][]byte{all[:2], all[1:3]}
	packed, _ := codec.Pack(fields...)
	want := []byte{2, 'a', 'b', 2, 'b', 'c'}
	if !bytes.Equal(packed, want) || string(all) != "abcd" {
		t.Errorf("Pack = %v, and left %q", packed, all)
	}
	all[0], all[1] = 'x', 'x'
	if !bytes.Equal(packed, want) {
		t.Errorf("a later change of a field shows in the result: %v", packed)
	}
	packed[1] = 'y'
	if string(all) != "xxcd" {
		t.Errorf("a change of the result shows in a field: %q", all)
	}
}

// Rule 4: what Fields yields shares nothing with the argument, with another field, or with a later pass.
func TestFieldsShareNothing(t *testing.T) {
	b := []byte{2, 7, 8, 1, 9}
	seq := codec.Fields(b[:5:5])
	want := []step{{[]byte{7, 8}, api.OK}, {[]byte{9}, api.OK}}
	for range 2 {
		got := steps(seq)
		if !sameSteps(got, want) {
			t.Errorf("a pass yields %v", got)
		}
		for i := range got {
			got[i].field[0] = 100
			_ = append(got[i].field, 101, 102)
		}
	}
	if !bytes.Equal(b, []byte{2, 7, 8, 1, 9}) {
		t.Errorf("a change of a field shows in the argument: %v", b)
	}
	for i := range b {
		b[i] = 255
	}
	if got := steps(seq); !sameSteps(got, want) {
		t.Errorf("a change of the argument shows in a later pass: %v", got)
	}
}

// P1.2: a consumer that changes the argument, or a field, during a pass doesn't disturb it.
func TestFieldsUndisturbed(t *testing.T) {
	b := []byte{1, 7, 1, 8, 1, 9}
	var got []byte
	for f, e := range codec.Fields(b) {
		if e != api.OK {
			t.Fatal(e)
		}
		got = append(got, f...)
		clear(b)
		clear(f)
	}
	if !bytes.Equal(got, []byte{7, 8, 9}) {
		t.Errorf("a disturbed pass yields %v", got)
	}
}

// Rule 4: what Unpack returns shares nothing with the argument, with another field, or with another result.
func TestUnpackSharesNothing(t *testing.T) {
	b := []byte{2, 7, 8, 1, 9, 0}
	want := [][]byte{{7, 8}, {9}, nil}
	first, _ := codec.Unpack(b[:6:6], 3)
	second, _ := codec.Unpack(b, 3)
	for i := range first {
		_ = append(first[i], 100, 101, 102)
	}
	if !sameLists(first, want) {
		t.Errorf("a field reaches into another one: %v", first)
	}
	first[0][0], first[1][0] = 100, 100
	if !sameLists(second, want) || !bytes.Equal(b, []byte{2, 7, 8, 1, 9, 0}) {
		t.Errorf("a change of a result shows in %v, or in %v", second, b)
	}
	clear(b)
	if !sameLists(second, want) {
		t.Errorf("a change of the argument shows in %v", second)
	}
}

// Rule 4: what lies behind the end of a slice isn't read.
func TestUnpackReadsNoFurther(t *testing.T) {
	b := []byte{2, 7, 8, 1}
	if l, e := codec.Unpack(b[:2], 5); l != nil || e != api.ErrCut {
		t.Errorf("Unpack of a part = %v, %d", l, e)
	}
	if l, e := codec.Unpack(b[:3], 5); e != api.OK || !sameLists(l, [][]byte{{7, 8}}) {
		t.Errorf("Unpack of a part = %v, %d", l, e)
	}
}
