package entry_test

import (
	"iter"
	"math"
	"slices"
	"strings"
	"testing"

	"wardship/api"
	"wardship/entry"
	"wardship/path"
)

// places are entries of some objects, in several directories, of which some went.
func places() []api.Entry {
	p, q, r := id(1, 1), id(2, 1), id(1, 2)
	return []api.Entry{
		{ID: id(1, 1), Dir: api.ID{}, Name: "b", Obj: p, By: api.Vec{9}},
		{ID: id(2, 1), Dir: api.ID{}, Name: "a", Obj: q},
		{ID: id(1, 2), Dir: q, Name: "a", Obj: r, By: api.Vec{7: 1}},
		{ID: id(3, 2), Dir: api.ID{}, Name: "b", Obj: p},
		{ID: id(1, 3), Dir: q, Name: "A", Obj: p},
		{ID: id(2, 3), Dir: q, Name: "b", Obj: q},
		{ID: id(4, 3), Dir: r, Name: "c", Obj: p, By: api.Vec{0, 1, 2}},
		{ID: id(1, 4), Dir: r, Name: "b", Obj: p},
		{ID: id(1, 5), Dir: q, Name: "b", Obj: api.ID{}},
	}
}

// P10.2: the entries of an object that are alive, in all directories, and of one that has none.
func TestOf(t *testing.T) {
	l := places()
	for _, c := range []struct {
		obj  api.ID
		want []api.Entry
	}{
		{id(1, 1), []api.Entry{l[3], l[4], l[7]}},
		{id(2, 1), []api.Entry{l[1], l[5]}},
		{id(1, 2), nil},
		{id(3, 2), nil},
		{id(2, 2), nil},
		{id(1, 3), nil},
		{id(-1, 1), nil},
		{id(1, math.MaxUint32), nil},
		{api.ID{}, l[8:]},
	} {
		same(t, "Of", slices.Collect(entry.Of(l, c.obj)), c.want)
		same(t, "Of, by the chapter", expectOf(l, c.obj), c.want)
		for _, none := range [][]api.Entry{nil, {}, l[:1]} {
			if seq := entry.Of(none, c.obj); seq == nil || len(slices.Collect(seq)) != 0 {
				t.Errorf("Of(%v, %v) isn't empty", none, c.obj)
			}
		}
	}
}

// first are the first entries that an iterator yields to a consumer that stops behind them.
func first(seq iter.Seq[api.Entry], most int) []api.Entry {
	var l []api.Entry
	for x := range seq {
		if l = append(l, x); len(l) == most {
			break
		}
	}
	return l
}

// P10.2, rule 7: a consumer that stops at once, in between and never; it is called no more, and the next one begins again.
func TestOfUntilTheConsumerStops(t *testing.T) {
	l := places()
	want := []api.Entry{l[3], l[4], l[7]}
	seq := entry.Of(l, id(1, 1))
	for _, n := range []int{1, 2, 3, 4, 1, 3, 2} {
		same(t, "Of until it is stopped", first(seq, n), want[:min(n, 3)])
		calls := 0
		seq(func(x api.Entry) bool {
			calls++
			return calls < n
		})
		if calls != min(n, 3) {
			t.Errorf("a consumer that stops at %d is called %d times", n, calls)
		}
		same(t, "Of again", slices.Collect(seq), want)
	}
	for x := range seq {
		same(t, "Of within itself", slices.Collect(seq), want)
		if x != want[0] {
			t.Errorf("%v comes first", x)
		}
		break
	}
}

// P10.2: the entries of a directory that are alive, by their names.
func TestIn(t *testing.T) {
	l := places()
	for _, c := range []struct {
		dir  api.ID
		want []api.Entry
	}{
		{api.ID{}, []api.Entry{l[1], l[3]}},
		{id(2, 1), []api.Entry{l[4], l[5], l[8]}},
		{id(1, 2), []api.Entry{l[7]}},
		{id(1, 1), nil},
		{id(0, 1), nil},
		{id(1, 0), nil},
		{id(2, 2), nil},
		{id(-2, 1), nil},
		{id(2, math.MaxUint32), nil},
	} {
		same(t, "In", entry.In(l, c.dir), c.want)
		same(t, "In, by the chapter", expectIn(l, c.dir), c.want)
		for _, none := range [][]api.Entry{nil, {}, l[:1]} {
			if got := entry.In(none, c.dir); len(got) != 0 {
				t.Errorf("In(%v, %v) = %v", none, c.dir, got)
			}
		}
	}
}

// sorted are names in their order: those that begin others come before these, and a byte above 127 behind all others.
func sorted() []string {
	return []string{"", "\x00", "-", "--", "-a", ".a", ".a-", ".ab", "0", "00", "1", "10", "2", "A", "AB", "B", "Z", "_", "a", "a\x00", "a-", "a.", "a.b", "a0", "aA", "a_", "aa", "aaa", "ab", "a~1.1", "a~2.1", "a\x7f", "a\x80", "a\xc3\xa9", "a\xff", "b", "ba", "z", "~", "\x7f", "\x80", "\x80a", "\xc3\xa9", "\xe6\x97\xa5", "\xff", "\xff\x00", "\xff\xff"}
}

// P10.2: names are in order byte by byte, whatever the numbers are.
func TestOrderOfNames(t *testing.T) {
	names := sorted()
	for step := 1; step < len(names); step++ {
		var l []api.Entry
		for i := range names {
			l = append(l, named(id(1+i%8, uint32(1+i/8)), names[i*step%len(names)]))
		}
		same(t, "In", entry.In(l, id(6, 3)), expectIn(l, id(6, 3)))
	}
	var backward []api.Entry
	for i := range names {
		backward = append(backward, named(id(2, uint32(i+1)), names[len(names)-1-i]))
	}
	var got []string
	for _, x := range entry.In(backward, id(6, 3)) {
		got = append(got, x.Name)
	}
	if !slices.Equal(got, names) {
		t.Errorf("%q, not\n%q", got, names)
	}
}

// P10.2: names that are alike come in the order of their numbers, few of them and many.
func TestOrderOfAlikes(t *testing.T) {
	b1, b2, b3, b4 := named(id(7, 1), "b"), named(id(8, 1), "b"), named(id(1, 2), "b"), named(id(1, 10), "b")
	a1, a2, c1 := named(id(2, 2), "a"), named(id(3, 9), "a"), named(id(1, 1), "c")
	l := []api.Entry{c1, b1, b2, b3, a1, a2, b4}
	same(t, "In", entry.In(l, id(6, 3)), []api.Entry{a1, a2, b1, b2, b3, b4, c1})
	texts(t, entry.In(l, id(6, 3)), "a", "a~3.9", "b", "b~8.1", "b~1.2", "b~1.10", "c")
	for n := range 100 {
		var many []api.Entry
		for i := range n {
			many = append(many, named(id(1+i%8, uint32(1+i/8)), []string{"c", "a", "b"}[i%3]))
		}
		same(t, "In", entry.In(many, id(6, 3)), expectIn(many, id(6, 3)))
	}
}

// P10.2: the names of entries, with a tag behind one that is alike to the one before it, however many there are in a row.
func TestShown(t *testing.T) {
	a := func(rep int) api.Entry { return named(id(rep, 1), "a") }
	b := func(rep int) api.Entry { return named(id(rep, 20), "b") }
	texts(t, nil)
	texts(t, []api.Entry{})
	texts(t, []api.Entry{a(1)}, "a")
	texts(t, []api.Entry{a(1), a(2)}, "a", "a~2.1")
	texts(t, []api.Entry{a(1), a(2), a(3)}, "a", "a~2.1", "a~3.1")
	texts(t, []api.Entry{a(1), a(2), a(3), a(4), b(1), b(2)}, "a", "a~2.1", "a~3.1", "a~4.1", "b", "b~2.20")
	texts(t, []api.Entry{a(1), b(1)}, "a", "b")
	texts(t, []api.Entry{a(1), b(1), a(2)}, "a", "b", "a")
	texts(t, []api.Entry{a(1), b(1), b(2), a(2), a(3), b(3)}, "a", "b", "b~2.20", "a", "a~3.1", "b")
	texts(t, []api.Entry{a(2), a(1)}, "a", "a~1.1")
	texts(t, []api.Entry{a(2), a(2)}, "a", "a~2.1")
}

// P10.2: what is alike is the name and nothing else.
func TestShownByNamesAlone(t *testing.T) {
	tagged := named(id(3, 1), "a~2.1")
	a1, a2 := named(id(1, 1), "a"), named(id(2, 1), "a")
	texts(t, []api.Entry{tagged}, "a~2.1")
	texts(t, []api.Entry{a1, a2, tagged}, "a", "a~2.1", "a~2.1")
	texts(t, []api.Entry{a1, a2, tagged, tagged}, "a", "a~2.1", "a~2.1", "a~2.1~3.1")
	texts(t, []api.Entry{tagged, a2, a1}, "a~2.1", "a", "a~1.1")
	texts(t, []api.Entry{named(id(1, 1), "a"), named(id(2, 1), "A"), named(id(3, 1), "ab"), named(id(4, 1), "")}, "a", "A", "ab", "")
	texts(t, []api.Entry{named(id(1, 1), ""), named(id(2, 1), ""), named(id(3, 1), " ")}, "", "~2.1", " ")
	other := api.Entry{ID: id(4, 7), Dir: id(1, 1), Name: "a", Obj: id(8, 8), By: api.Vec{1}}
	texts(t, []api.Entry{a1, other, a2}, "a", "a~4.7", "a~2.1")
	texts(t, []api.Entry{other, a1}, "a", "a~1.1")
}

// P10.2: the tag of each number.
func TestShownWithEachNumber(t *testing.T) {
	for _, n := range ids() {
		for _, name := range sorted() {
			texts(t, []api.Entry{named(n, name)}, name)
			texts(t, []api.Entry{named(id(1, 1), name), named(n, name)}, name, path.Tag(name, n))
			texts(t, []api.Entry{named(id(1, 1), name+"x"), named(n, name)}, name+"x", name)
		}
	}
	texts(t, []api.Entry{named(id(1, 1), "x"), named(id(8, math.MaxUint32), "x"), named(id(-7, 0), "x"), named(api.ID{}, "x")}, "x", "x~8.4294967295", "x~-7.0", "x~0.0")
	long := strings.Repeat("n", 100000)
	texts(t, []api.Entry{named(id(1, 1), long), named(id(1, 2), long)}, long, long+"~1.2")
}
