package volume_test

import (
	"strings"
	"testing"

	"wardship/api"
)

// moves checks a rename that is done.
func moves(t *testing.T, x *site, at, to string, number, dir api.ID, gone ...api.ID) {
	t.Helper()
	e := api.Event{ID: id(x.rep, x.s.Known[x.rep-1]+1), Dep: x.s.Known, Kind: api.KindMove, Obj: number, Gone: gone, Dir: dir, Name: last(to)}
	comesTo(t, x.s, x.rep, nil, api.Op{Verb: "rename", Path: at, To: to}, e)
	comesTo(t, x.s, x.rep, []string{at, to}, api.Op{Verb: "rename", Path: at, To: to}, e)
}

// P15.1: files and directories get another name, another directory, both; out of lost+found, into what is in it, and within that.
func TestRename(t *testing.T) {
	x, _ := grove(t)
	d, e, f, z, p, q, l, h, n, void := id(1, 1), id(1, 2), id(1, 3), id(1, 4), id(1, 7), id(1, 8), id(1, 9), id(1, 12), id(2, 5), id(1, 14)
	moves(t, x, "/z", "/new", z, root, z)
	moves(t, x, "/z", "/void/z", z, void, z)
	moves(t, x, "/d/e/f", "/d/f", f, d, f)
	moves(t, x, "/d/e/f", "/f", f, root, f)
	moves(t, x, "/d/e", "/e", e, root, e)
	moves(t, x, "/d", "/void/D", d, void, d)
	moves(t, x, "/n", "/d/n", n, d, n)
	moves(t, x, "/n~1.20", "/d/n", id(1, 20), d, id(1, 20))
	moves(t, x, "/n~1.20", "/n/n", id(1, 20), n, id(1, 20))
	moves(t, x, "/lost+found/l~1.9", "/l", l, root)
	moves(t, x, "/lost+found/l~1.9", "/lost+found/p~1.7/l", l, p)
	moves(t, x, "/lost+found/h~1.12", "/h", h, root)
	moves(t, x, "/lost+found/h~1.12", "/lost+found/p~1.7/q/h", h, q)
	moves(t, x, "/lost+found/p~1.7", "/p", p, root, id(1, 16))
	moves(t, x, "/lost+found/p~1.7/q", "/q", q, root, id(2, 2))
	moves(t, x, "/lost+found/p~1.7/q", "/lost+found/h~1.12/q", q, h, id(2, 2))
	moves(t, x, "/lost+found/p~1.7/q", "/lost+found/p~1.7/Q", q, p, id(2, 2))
	moves(t, x, "/d", "/lost+found/p~1.7/q/d", d, q, d)
	moves(t, x, "/lost+found/h~1.12/late", "/late", id(2, 4), root, id(2, 4))
}

// P15.1: what isn't found, or is none, is told first, whatever To is.
func TestRenameOfNothing(t *testing.T) {
	x, _ := grove(t)
	for _, to := range []string{"", "x", "/", "/new", "/z", "/none/a", "/z/a", "/a~1.1", "/lost+found", "/lost+found/a"} {
		isNoThing(t, x.s, api.Op{Verb: "rename", To: to})
	}
}

// P15.1: a directory isn't moved to its own path, nor below it, ahead of all that is wrong with the place.
func TestRenameIntoItself(t *testing.T) {
	x, _ := grove(t)
	for _, at := range []string{"/d", "/d/e", "/n", "/void", "/lost+found/p~1.7", "/lost+found/p~1.7/q", "/lost+found/h~1.12"} {
		for _, to := range []string{at, at + "/new", at + "/none/new", at + "/e", at + "/g", at + "/g/a", at + "/late", at + "/a~1.1", at + "/lost+found"} {
			x.refuses(api.ErrSelf, api.Op{Verb: "rename", Path: at, To: to})
			refuses(t, api.ErrSelf, x.s, 1, []string{at}, api.Op{Verb: "rename", Path: at, To: to})
		}
	}
	// What is no path lies below nothing, and a path that begins with the same letters doesn't, either.
	for _, to := range []string{"/d/", "/d/..", "/d//e", "/d/abcdefghijklm", "/d" + strings.Repeat("/d", 10)} {
		x.refuses(api.ErrPath, api.Op{Verb: "rename", Path: "/d", To: to})
	}
	moves(t, x, "/d", "/dd", id(1, 1), root, id(1, 1))
	moves(t, x, "/d/e", "/d/ee", id(1, 2), id(1, 1), id(1, 2))
	x.refuses(api.ErrExists, api.Op{Verb: "rename", Path: "/d/e", To: "/d"})
}

// P15.1: a file at its own path is there already; below it there is no directory.
func TestRenameFileToItself(t *testing.T) {
	x, _ := grove(t)
	for _, at := range []string{"/z", "/c", "/d/g", "/d/e/f", "/n/x", "/lost+found/h~1.12/late"} {
		x.refuses(api.ErrExists, api.Op{Verb: "rename", Path: at, To: at})
		x.refuses(api.ErrNotDir, api.Op{Verb: "rename", Path: at, To: at + "/new"})
		x.refuses(api.ErrNotDir, api.Op{Verb: "rename", Path: at, To: at + "/new/newer"})
		x.refuses(api.ErrPath, api.Op{Verb: "rename", Path: at, To: at + "/a~1.1"})
	}
	for _, at := range []string{"/n~1.20", "/lost+found/l~1.9"} {
		x.refuses(api.ErrPath, api.Op{Verb: "rename", Path: at, To: at})
		x.refuses(api.ErrNotDir, api.Op{Verb: "rename", Path: at, To: at + "/new"})
	}
}

// P15.1: the errors of the place of To (which other tests go through), of files and of directories; what is at Path must be chosen, and To must.
func TestRenameToNoPlace(t *testing.T) {
	x, _ := grove(t)
	for _, at := range []string{"/z", "/void", "/lost+found/l~1.9", "/lost+found/p~1.7/q", "/n~1.20"} {
		for to, want := range map[string]api.Errno{
			"": api.ErrPath, "x": api.ErrPath, "/": api.ErrExists, "/lost+found": api.ErrPath, "/d/a~1.1": api.ErrPath, "/none/a": api.ErrNone, "/c/a": api.ErrNotDir,
			"/lost+found/a": api.ErrArg, "/d": api.ErrExists, "/c": api.ErrExists, "/d/e/f": api.ErrExists, "/n": api.ErrExists,
		} {
			x.refuses(want, api.Op{Verb: "rename", Path: at, To: to})
		}
		op := api.Op{Verb: "rename", Path: at, To: "/d/new"}
		refuses(t, api.ErrChosen, x.s, 1, []string{"/d"}, op)
		refuses(t, api.ErrChosen, x.s, 1, []string{at}, op)
		refuses(t, api.ErrChosen, x.s, 1, []string{"/none"}, op)
		refuses(t, api.ErrChosen, x.s, 1, []string{at, "/d/new/a"}, op)
		for _, chosen := range [][]string{{"/"}, {at, "/d"}, {"/d", at}, {at, "/d/new"}} {
			if _, err := asked(t, x.s, 1, chosen, op); err != api.OK {
				t.Errorf("%+v, %q: %d", op, chosen, err)
			}
		}
		op.To = "/d/e"
		refuses(t, api.ErrChosen, x.s, 1, []string{at}, op)
	}
}

// P15.1: of a file at two places the one at the path is moved, the other one stays.
func TestRenameFileAtTwoPlaces(t *testing.T) {
	x := sites(t, 1)[0]
	d := x.mkdir("/d")
	f := x.create("/f")
	g := x.link(f, d, "g")
	moves(t, x, "/f", "/h", f, root, f)
	moves(t, x, "/d/g", "/h", f, root, g)
	x.rename("/d/g", "/h")
	x.isSeenAs("/d", "/f", "/h")
	x.rename("/f", "/d/f")
	x.isSeenAs("/d", "/d/f", "/h")
	x.refuses(api.ErrExists, api.Op{Verb: "rename", Path: "/h", To: "/d/f"})
}

// P15.1: a directory that several moved is moved with all its entries.
func TestRenameDirectoryWithEntries(t *testing.T) {
	l := sites(t, 3)
	one, two, three := l[0], l[1], l[2]
	d := one.mkdir("/d")
	meet(l...)
	one.rename("/d", "/one")
	two.rename("/d", "/two")
	three.rename("/d", "/three")
	meet(l...)
	one.isSeenAs("/one")
	moves(t, two, "/one", "/two", d, root, id(2, 1), id(3, 1), id(1, 2))
	two.rename("/one", "/new")
	two.isSeenAs("/new")
	one.hears(two)
	one.isSeenAs("/new")
}

// P15.3: the first exception: a directory moved to a place in lost+found can be where others are lost now.
func TestRenameLosesOthers(t *testing.T) {
	l := sites(t, 2)
	one, two := l[0], l[1]
	one.mkdir("/a") // 1.1
	one.mkdir("/b") // 1.2
	one.mkdir("/c") // 1.3
	meet(l...)
	one.rename("/b", "/c/b")
	two.rename("/c", "/b/c")
	one.rename("/a", "/c/b/a")
	meet(l...)
	one.isSeenAs("/lost+found", "/lost+found/b~1.2", "/lost+found/b~1.2/a", "/lost+found/b~1.2/c")
	// c is in b, which is in c: in a it is in what is in b.
	one.rename("/lost+found/b~1.2/c", "/lost+found/b~1.2/a/c")
	one.isSeenAs("/lost+found", "/lost+found/a~1.1", "/lost+found/a~1.1/c", "/lost+found/a~1.1/c/b")
}

// P15.3: the second exception: what is moved from beside a directory of the same name to below it makes that directory's path another one.
func TestRenameChangesPaths(t *testing.T) {
	for _, verb := range []string{"create", "mkdir"} {
		l := sites(t, 2)
		one, two := l[0], l[1]
		one.asks(api.Op{Verb: verb, Path: "/a"})
		two.mkdir("/a")
		meet(l...)
		one.isSeenAs("/a", "/a~2.1")
		one.rename("/a", "/a~2.1/b")
		one.isSeenAs("/a", "/a/b")
		// The other way round nothing changes but what is moved.
		if verb == "mkdir" {
			two.rename("/a~2.1", "/a/b")
			two.isSeenAs("/a", "/a/b")
		}
	}
}

// P15.3: moved out of a directory in lost+found that had no entries and held nothing else, something is where it was moved to, and the directory is nowhere.
func TestRenameOutOfLost(t *testing.T) {
	x, _ := grove(t)
	x.rename("/lost+found/h~1.12/late", "/void/late")
	x.refuses(api.ErrNone, api.Op{Verb: "rename", Path: "/lost+found/h~1.12", To: "/h"})
	x.rename("/lost+found/p~1.7/q", "/q")
	x.isSeenAs("/c", "/d", "/d/e", "/d/e/f", "/d/g", "/n", "/n/x", "/n~1.20", "/q", "/q/p", "/q/p/in", "/void", "/void/late", "/z", "/lost+found", "/lost+found/l~1.9")
	x.rename("/lost+found/l~1.9", "/l")
	x.refuses(api.ErrNone, api.Op{Verb: "rename", Path: "/lost+found", To: "/new"})
}
