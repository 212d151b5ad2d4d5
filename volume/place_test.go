package volume_test

import (
	"strings"
	"testing"

	"wardship/api"
	"wardship/path"
)

// noPaths are some texts that are no paths.
func noPaths() []string {
	return []string{
		"", "a", "d", "d/e", "/d/", "//", "//d", "/d//e", "/.", "/..", "/d/..", "/d/.", "/ ", "/d e", "/a~", "/a~1", "/a~01.5", "/lost+found/", "/lost+found~1.1", "/+", "/d\x00", "/é", "/\xff",
		"/abcdefghijklm", strings.Repeat("/d", 11), strings.Repeat("/abcdefghijkl", 10),
	}
}

// lists are no list, and some that choose, and don't choose, what is in the grove.
func lists() [][]string { return [][]string{nil, {"/"}, {"/d"}, {"/void"}, {"/none"}, {"x"}} }

// creates checks what create and mkdir, and a rename of /z and of /void, answer for a path.
func creates(t *testing.T, s api.State, chosen []string, at string, dir api.ID, want api.Errno) {
	t.Helper()
	event := api.Event{ID: id(1, s.Known[0]+1), Dep: s.Known, Dir: dir, Name: last(at)}
	for verb, kind := range map[string]int{"create": api.KindFile, "mkdir": api.KindDir} {
		if want != api.OK {
			refuses(t, want, s, 1, chosen, api.Op{Verb: verb, Path: at})
			continue
		}
		event.Kind = kind
		comesTo(t, s, 1, chosen, api.Op{Verb: verb, Path: at}, event)
	}
	event.Kind = api.KindMove
	for from, number := range map[string]api.ID{"/z": id(1, 4), "/void": id(1, 14)} {
		// These are what is moved, so they must be there as well, chosen, and not ahead of where they are moved to.
		op, list := api.Op{Verb: "rename", Path: from, To: at}, append([]string{from}, chosen...)
		switch {
		case path.Within(at, from):
			continue
		case len(chosen) == 0:
			list = nil
		}
		if want != api.OK {
			refuses(t, want, s, 1, list, op)
			continue
		}
		event.Obj, event.Gone = number, ids(number)
		comesTo(t, s, 1, list, op, event)
	}
}

// P15.1: no place at what is no path, whatever is chosen.
func TestPlaceAtNoPath(t *testing.T) {
	x, _ := grove(t)
	for _, chosen := range lists() {
		for _, at := range noPaths() {
			creates(t, x.s, chosen, at, root, api.ErrPath)
			creates(t, x.s, append(chosen, at), at, root, api.ErrPath)
		}
	}
}

// P15.1: no place at the root, which is there, whatever is chosen.
func TestPlaceAtRoot(t *testing.T) {
	x, _ := grove(t)
	for _, chosen := range lists() {
		creates(t, x.s, chosen, "/", root, api.ErrExists)
		refuses(t, api.ErrExists, api.State{}, 1, chosen, api.Op{Verb: "create", Path: "/"})
	}
}

// P15.1: no place by a last part that is no name, be it there or not, whatever is chosen.
func TestPlaceWithoutName(t *testing.T) {
	x, _ := grove(t)
	for _, chosen := range lists() {
		for _, at := range []string{"/a~1.1", "/n~1.20", "/lost+found", "/lost+found/p~1.7", "/d/lost+found", "/d/a~0.0", "/none/a~1.1", "/none/lost+found", "/z/a~1.1", "/z/lost+found", "/lost+found/lost+found"} {
			creates(t, x.s, chosen, at, root, api.ErrPath)
		}
	}
	refuses(t, api.ErrPath, api.State{}, 1, nil, api.Op{Verb: "create", Path: "/lost+found"})
}

// P15.1: no place at what isn't chosen, be it there or not; what is chosen need not be a choice.
func TestPlaceNotChosen(t *testing.T) {
	x, _ := grove(t)
	for _, chosen := range [][]string{{"/d/e"}, {"/d/e", "/d/e"}, {"/zz", "/d/e", "/d/e/f"}, {"x", "/d/e/f/q"}, {"x"}, {""}} {
		for _, at := range []string{"/new", "/z", "/d", "/d/new", "/d/g", "/none/a", "/z/a", "/lost+found/a", "/n~1.20/a"} {
			creates(t, x.s, chosen, at, root, api.ErrChosen)
		}
	}
	for _, chosen := range [][]string{{"/d/e"}, {"/zz", "/d/e", "/d/e/f"}, {"/d", "/"}, {"x", "/d/e/new"}} {
		creates(t, x.s, chosen, "/d/e/new", id(1, 2), api.OK)
	}
}

// P15.1: the directory must be there: the error of Find for it, chosen or not.
func TestPlaceWithoutDirectory(t *testing.T) {
	x, _ := grove(t)
	for _, c := range []struct {
		at   string
		want api.Errno
	}{
		{"/none/a", api.ErrNone}, {"/d/none/a", api.ErrNone}, {"/d/none/a/b", api.ErrNone}, {"/none/z/a", api.ErrNone}, {"/n~9.9/a", api.ErrNone}, {"/d/lost+found/a", api.ErrNone},
		{"/z/a/b", api.ErrNotDir}, {"/d/g/a/b", api.ErrNotDir}, {"/lost+found/l~1.9/a/b", api.ErrNotDir}, {"/n~1.20/a/b", api.ErrNotDir},
	} {
		for _, chosen := range [][]string{nil, {c.at}, {above(c.at)}, {"/"}} {
			creates(t, x.s, chosen, c.at, root, c.want)
		}
	}
	refuses(t, api.ErrNone, api.State{}, 1, nil, api.Op{Verb: "create", Path: "/lost+found/a"})
	refuses(t, api.ErrNone, api.State{}, 1, nil, api.Op{Verb: "create", Path: "/a/b"})
}

// P15.1: a directory that is there need not be chosen itself: what is created in it must.
func TestPlaceInDirectoryNotChosen(t *testing.T) {
	x, _ := grove(t)
	creates(t, x.s, []string{"/new"}, "/new", root, api.OK)
	creates(t, x.s, []string{"/d/e/new", "/z"}, "/d/e/new", id(1, 2), api.OK)
	creates(t, x.s, []string{"/lost+found/p~1.7/q/new"}, "/lost+found/p~1.7/q/new", id(1, 8), api.OK)
	creates(t, x.s, []string{"/none/new"}, "/none/new", root, api.ErrNone)
	creates(t, x.s, []string{"/z/new"}, "/z/new", root, api.ErrNotDir)
}

// P15.1: a file holds nothing; lost+found holds what is lost, and nothing else, be there something by the name or not.
func TestPlaceInWhatHoldsNothing(t *testing.T) {
	x, _ := grove(t)
	for _, at := range []string{"/z/a", "/c/a", "/n~1.20/a", "/d/e/f/a", "/lost+found/l~1.9/a", "/lost+found/h~1.12/late/late"} {
		creates(t, x.s, nil, at, root, api.ErrNotDir)
		creates(t, x.s, []string{at}, at, root, api.ErrNotDir)
	}
	for _, at := range []string{"/lost+found/a", "/lost+found/p", "/lost+found/l"} {
		creates(t, x.s, nil, at, root, api.ErrArg)
		creates(t, x.s, []string{at}, at, root, api.ErrArg)
		creates(t, x.s, []string{"/lost+found"}, at, root, api.ErrArg)
	}
}

// P15.1: in the directories that are in lost+found there are places.
func TestPlaceInWhatIsLost(t *testing.T) {
	x, _ := grove(t)
	creates(t, x.s, nil, "/lost+found/p~1.7/new", id(1, 7), api.OK)
	creates(t, x.s, nil, "/lost+found/p~1.7/q/new", id(1, 8), api.OK)
	creates(t, x.s, nil, "/lost+found/h~1.12/new", id(1, 12), api.OK)
	creates(t, x.s, nil, "/lost+found/p~1.7/in", root, api.ErrExists)
	creates(t, x.s, nil, "/lost+found/h~1.12/late", root, api.ErrExists)
	// The file that was removed from h, and the home of p in q, aren't displayed there.
	creates(t, x.s, nil, "/lost+found/h~1.12/in", id(1, 12), api.OK)
	creates(t, x.s, nil, "/lost+found/p~1.7/q/p", id(1, 8), api.OK)
}

// P15.1: no place where something is displayed, a file or a directory; where something was, there is one.
func TestPlaceTaken(t *testing.T) {
	x, _ := grove(t)
	for _, at := range []string{"/c", "/d", "/n", "/d/e", "/d/g", "/d/e/f", "/n/x"} {
		creates(t, x.s, nil, at, root, api.ErrExists)
		creates(t, x.s, []string{at}, at, root, api.ErrExists)
	}
	for _, at := range []string{"/l", "/h", "/p", "/q", "/new", "/D", "/dd", "/lostfound", "/-", "/..."} {
		creates(t, x.s, nil, at, root, api.OK)
	}
	creates(t, x.s, nil, "/n/n", id(2, 5), api.OK)
	creates(t, x.s, nil, "/d/d", id(1, 1), api.OK)
}

// P15.1: of a directory by whose name others clash the tag tells which.
func TestPlaceBelowTags(t *testing.T) {
	l := sites(t, 2)
	a := l[0].mkdir("/a")
	b := l[1].mkdir("/a")
	meet(l...)
	x := l[0]
	x.create("/a~2.1/in")
	x.refuses(api.ErrNone, api.Op{Verb: "create", Path: "/a~1.1/in"})
	x.create("/a/in")
	x.isSeenAs("/a", "/a/in", "/a~2.1", "/a~2.1/in")
	comesTo(t, x.s, 1, nil, api.Op{Verb: "create", Path: "/a/new"}, api.Event{ID: id(1, 4), Dep: x.s.Known, Kind: api.KindFile, Dir: a, Name: "new"})
	comesTo(t, x.s, 1, nil, api.Op{Verb: "create", Path: "/a~2.1/new"}, api.Event{ID: id(1, 4), Dep: x.s.Known, Kind: api.KindFile, Dir: b, Name: "new"})
}

// P15.1: names and paths of the greatest length.
func TestLongPlaces(t *testing.T) {
	x := sites(t, 1)[0]
	at := ""
	for range api.MaxDepth - 1 {
		at += "/abcdefghijk"
		x.mkdir(at)
	}
	x.refuses(api.ErrPath, api.Op{Verb: "create", Path: at + "/abcdefghijkl"})
	x.create(at + "/abcdefghijk")
	x.refuses(api.ErrExists, api.Op{Verb: "mkdir", Path: at + "/abcdefghijk"})
	x.refuses(api.ErrPath, api.Op{Verb: "create", Path: at + "/abcdefghijk/a"})
	x.create("/abcdefghijkl")
	x.refuses(api.ErrPath, api.Op{Verb: "create", Path: "/abcdefghijklm"})
}
