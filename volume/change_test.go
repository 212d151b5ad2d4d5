package volume_test

import (
	"math"
	"strings"
	"testing"

	"wardship/api"
	"wardship/volume"
)

// changes are the verbs that give a file another version.
func changes() []string { return []string{"write", "cut", "fix"} }

// texts are so many bytes.
func texts(n int) string { return strings.Repeat("t", n) }

// P15.1: a thing that isn't found, or is none, ahead of all that is wrong with the operation itself.
func TestChangeOfNothing(t *testing.T) {
	x, _ := grove(t)
	for _, verb := range append(changes(), "remove", "rename") {
		for _, op := range []api.Op{{Verb: verb, N: -1, To: "x"}, {Verb: verb, Data: "x", To: "/new"}, {Verb: verb, N: 201, Data: texts(201), To: "/"}} {
			isNoThing(t, x.s, op)
		}
	}
}

// isNoThing checks the errors of finding a thing for an operation.
func isNoThing(t *testing.T, s api.State, op api.Op) {
	t.Helper()
	for _, c := range []struct {
		want   api.Errno
		chosen []string
		at     []string
	}{
		{api.ErrPath, nil, noPaths()},
		{api.ErrPath, []string{"/none"}, noPaths()},
		{api.ErrPath, noPaths(), noPaths()},
		{api.ErrChosen, []string{"/d/e"}, []string{"/", "/d", "/z", "/c", "/d/g", "/none", "/d/none", "/z/none", "/lost+found", "/lost+found/l~1.9", "/n~1.20"}},
		{api.ErrChosen, []string{"x"}, []string{"/", "/d", "/none", "/lost+found", "/lost+found/none"}},
		{api.ErrNone, nil, []string{"/none", "/d/none", "/none/z", "/l", "/p", "/lost+found/none", "/lost+found/p", "/lost+found/l~1.8", "/n~2.5", "/d/lost+found", "/lost+found/lost+found"}},
		{api.ErrNone, []string{"/none", "/d"}, []string{"/none", "/d/none", "/d/none/none"}},
		{api.ErrNotDir, nil, []string{"/z/none", "/c/c", "/d/e/f/g", "/lost+found/l~1.9/none", "/z/none/none"}},
		{api.ErrNotDir, []string{"/z/none"}, []string{"/z/none"}},
		{api.ErrArg, nil, []string{"/", "/lost+found"}},
		{api.ErrArg, []string{"/"}, []string{"/", "/lost+found"}},
		{api.ErrArg, []string{"/d", "/lost+found"}, []string{"/lost+found"}},
	} {
		for _, at := range c.at {
			op.Path = at
			refuses(t, c.want, s, 1, c.chosen, op)
		}
	}
	op.Path = "/lost+found"
	refuses(t, api.ErrNone, api.State{}, 1, nil, op)
}

// P15.1: a directory has no bytes, ahead of all that is wrong with the operation itself.
func TestChangeOfDirectory(t *testing.T) {
	x, _ := grove(t)
	for _, verb := range changes() {
		for _, at := range []string{"/d", "/d/e", "/n", "/void", "/lost+found/p~1.7", "/lost+found/p~1.7/q", "/lost+found/h~1.12"} {
			for _, op := range []api.Op{{}, {N: -1}, {N: 201, Data: texts(201)}, {Data: "x"}} {
				op.Verb, op.Path = verb, at
				refuses(t, api.ErrIsDir, x.s, 1, nil, op)
				refuses(t, api.ErrIsDir, x.s, 1, []string{at}, op)
			}
		}
	}
}

// P15.1: of a file with several latest versions nothing is written or cut, ahead of all that is wrong with the bytes.
func TestConflict(t *testing.T) {
	x, _ := grove(t)
	for _, op := range []api.Op{{}, {N: -1}, {N: 201, Data: texts(201)}, {Data: "x"}} {
		op.Path = "/c"
		op.Verb = "write"
		x.refuses(api.ErrConflict, op)
		op.Verb = "cut"
		x.refuses(api.ErrConflict, op)
	}
	x.asks(api.Op{Verb: "fix", Path: "/c", Data: "both"})
	x.write("/c", "x")
	x.asks(api.Op{Verb: "cut", Path: "/c", N: 2})
	text, err := volume.Read(x.s, nil, "/c")
	isTexts(t, "/c", []string{text}, err, "xo")
}

// P15.1: bytes are written into a file with one version and into one without, from 0 on, behind the end, up to the greatest length.
func TestWrite(t *testing.T) {
	for _, at := range []string{"/z", "/d/e/f", "/lost+found/l~1.9"} {
		x, _ := grove(t)
		for _, c := range []struct {
			n    int
			data string
			want api.Errno
		}{
			{0, "x", api.OK}, {1, "x", api.OK}, {4, "x", api.OK}, {100, "x", api.OK}, {199, "x", api.OK}, {0, texts(200), api.OK}, {1, texts(199), api.OK}, {100, texts(100), api.OK},
			{200, "x", api.ErrLong}, {201, "x", api.ErrLong}, {0, texts(201), api.ErrLong}, {1, texts(200), api.ErrLong}, {100, texts(101), api.ErrLong},
			{-1, "x", api.ErrLong}, {-1, texts(201), api.ErrLong}, {math.MinInt, "x", api.ErrLong}, {math.MaxInt, "x", api.ErrLong}, {math.MaxInt - 1, texts(2), api.ErrLong}, {1 << 32, "x", api.ErrLong},
			{0, "", api.ErrArg}, {-1, "", api.ErrArg}, {200, "", api.ErrArg}, {201, "", api.ErrArg}, {math.MaxInt, "", api.ErrArg},
			{0, "\x00\xff\n", api.OK},
		} {
			op := api.Op{Verb: "write", Path: at, N: c.n, Data: c.data}
			if e, err := asked(t, x.s, 1, nil, op); err != c.want || e.Data != c.data && err == api.OK {
				t.Errorf("%+v: %+v, %d, not %d", op, e, err, c.want)
			}
		}
	}
}

// P15.1: a file gets a length from 0 to the greatest one, whether it is shorter or longer, and also the one that it has.
func TestCut(t *testing.T) {
	for _, at := range []string{"/z", "/d/e/f", "/lost+found/l~1.9"} {
		x, _ := grove(t)
		for n, want := range map[int]api.Errno{
			0: api.OK, 1: api.OK, 3: api.OK, 4: api.OK, 5: api.OK, 199: api.OK, 200: api.OK, 201: api.ErrLong, 1000: api.ErrLong, -1: api.ErrLong, math.MinInt: api.ErrLong, math.MaxInt: api.ErrLong, 1<<32 + 1: api.ErrLong,
		} {
			op := api.Op{Verb: "cut", Path: at, N: n}
			if _, err := asked(t, x.s, 1, nil, op); err != want {
				t.Errorf("%+v: %d, not %d", op, err, want)
			}
		}
	}
}

// P15.1: what is written stands on what was written before, whoever wrote it.
func TestRowOfChanges(t *testing.T) {
	l := sites(t, 2)
	one, two := l[0], l[1]
	f := one.create("/f")
	first := one.asks(api.Op{Verb: "cut", Path: "/f", N: 3})
	two.hears(one)
	comesTo(t, two.s, 2, nil, api.Op{Verb: "write", Path: "/f", N: 2, Data: "abc"}, api.Event{ID: id(2, 1), Dep: api.Vec{2}, Kind: api.KindWrite, Obj: f, Base: ids(first), Off: 2, Data: "abc"})
	second := two.asks(api.Op{Verb: "write", Path: "/f", N: 2, Data: "abc"})
	one.hears(two)
	comesTo(t, one.s, 1, nil, api.Op{Verb: "cut", Path: "/f", N: 4}, api.Event{ID: id(1, 3), Dep: api.Vec{2, 1}, Kind: api.KindCut, Obj: f, Base: ids(second), Off: 4})
	one.asks(api.Op{Verb: "cut", Path: "/f", N: 4})
	text, err := volume.Read(one.s, nil, "/f")
	isTexts(t, "/f", []string{text}, err, "\x00\x00ab")
}

// P15.1: there is nothing to fix in a file without a version, or with one: ahead of bytes that are too many; with two there is.
func TestFix(t *testing.T) {
	x, _ := grove(t)
	for _, at := range []string{"/z", "/d/g", "/d/e/f", "/n~1.20", "/lost+found/l~1.9", "/lost+found/h~1.12/late"} {
		for _, data := range []string{"", "x", texts(200), texts(201)} {
			x.refuses(api.ErrState, api.Op{Verb: "fix", Path: at, Data: data})
		}
	}
	for _, n := range []int{0, -1, 200, 201, math.MinInt} {
		x.refuses(api.ErrLong, api.Op{Verb: "fix", Path: "/c", N: n, Data: texts(201)})
		x.refuses(api.ErrLong, api.Op{Verb: "fix", Path: "/c", N: n, Data: texts(100000)})
		for _, data := range []string{"", "x", texts(200)} {
			comesTo(t, x.s, 1, nil, api.Op{Verb: "fix", Path: "/c", N: n, Data: data}, api.Event{ID: id(1, 21), Dep: x.s.Known, Kind: api.KindFix, Obj: id(1, 11), Base: ids(id(2, 1), id(1, 15)), Data: data})
		}
	}
	x.asks(api.Op{Verb: "fix", Path: "/c"})
	x.refuses(api.ErrState, api.Op{Verb: "fix", Path: "/c", Data: texts(201)})
	text, err := volume.Read(x.s, nil, "/c")
	isTexts(t, "/c", []string{text}, err, "")
}

// split is a state with a file /f that has so many latest versions, whose bytes are their places in their order.
func split(t *testing.T, n int) api.State {
	t.Helper()
	x := &site{t: t, rep: 3}
	f := x.create("/f")
	for i := range n {
		x.also(f, string(rune('a'+i)))
	}
	return x.s
}

// P15.1: of several latest versions the first MaxIDs are made one; the others stay.
func TestFixOfMany(t *testing.T) {
	for n := 2; n <= 12; n++ {
		s := split(t, n)
		var base []api.ID
		for i := range min(n, api.MaxIDs) {
			base = append(base, id(3, uint32(i+2)))
		}
		x := &site{t: t, rep: 1, s: s}
		comesTo(t, s, 1, nil, api.Op{Verb: "fix", Path: "/f", Data: "all"}, api.Event{ID: id(1, 1), Dep: s.Known, Kind: api.KindFix, Obj: id(3, 1), Base: base, Data: "all"})
		x.asks(api.Op{Verb: "fix", Path: "/f", Data: "all"})
		want := []string{"all"}
		for i := api.MaxIDs; i < n; i++ {
			want = append(want, string(rune('a'+i)))
		}
		l, err := volume.Versions(x.s, nil, "/f")
		isTexts(t, "/f", l, err, want...)
	}
}

// P15.1: versions that others replaced are none of the latest, be they swept or not.
func TestFixOfLatest(t *testing.T) {
	l := sites(t, 3)
	one, two, three := l[0], l[1], l[2]
	one.create("/f")
	one.write("/f", "o")
	meet(l...)
	one.write("/f", "a") // 1.3
	one.write("/f", "A") // 1.4
	two.write("/f", "b") // 2.1
	three.write("/f", "c")
	three.write("/f", "C") // 3.2
	meet(l...)
	for _, s := range []api.State{one.s, swept(one.s, one.s.Known), swept(one.s, api.Vec{3})} {
		comesTo(t, s, 2, nil, api.Op{Verb: "fix", Path: "/f", Data: "f"}, api.Event{ID: id(2, 2), Dep: one.s.Known, Kind: api.KindFix, Obj: id(1, 1), Base: ids(id(2, 1), id(3, 2), id(1, 4)), Data: "f"})
		got, err := volume.Versions(s, nil, "/f")
		isTexts(t, "/f", got, err, "b", "C", "A")
	}
	two.asks(api.Op{Verb: "fix", Path: "/f", Data: "f"})
	one.refuses(api.ErrConflict, api.Op{Verb: "write", Path: "/f", Data: "x"})
	one.hears(two)
	comesTo(t, one.s, 1, nil, api.Op{Verb: "write", Path: "/f", Data: "x"}, api.Event{ID: id(1, 5), Dep: one.s.Known, Kind: api.KindWrite, Obj: id(1, 1), Base: ids(id(2, 2)), Data: "x"})
}
