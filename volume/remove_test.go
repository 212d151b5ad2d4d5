package volume_test

import (
	"testing"

	"wardship/api"
)

// P15.1: a file with one entry goes by that, be there versions or not, one or several.
func TestRemoveFile(t *testing.T) {
	for at, number := range map[string]api.ID{"/z": id(1, 4), "/d/e/f": id(1, 3), "/c": id(1, 11), "/n~1.20": id(1, 20), "/n/x": id(2, 6), "/lost+found/h~1.12/late": id(2, 4), "/lost+found/p~1.7/in": id(2, 7)} {
		x, _ := grove(t)
		comesTo(t, x.s, 1, nil, api.Op{Verb: "remove", Path: at}, api.Event{ID: id(1, 21), Dep: x.s.Known, Kind: api.KindDrop, Obj: number, Gone: ids(number)})
		x.remove(at)
		x.refuses(api.ErrNone, api.Op{Verb: "remove", Path: at})
	}
}

// P15.1: of a file at two places just the entry at the path goes.
func TestRemoveFileAtTwoPlaces(t *testing.T) {
	l := sites(t, 2)
	one, two := l[0], l[1]
	f := one.create("/f")
	one.mkdir("/d")
	meet(l...)
	one.rename("/f", "/d/one")
	two.rename("/f", "/two")
	meet(l...)
	one.isSeenAs("/d", "/d/one", "/two")
	drop := api.Event{ID: id(1, 4), Dep: one.s.Known, Kind: api.KindDrop, Obj: f}
	drop.Gone = ids(id(1, 3))
	comesTo(t, one.s, 1, nil, api.Op{Verb: "remove", Path: "/d/one"}, drop)
	drop.Gone = ids(id(2, 1))
	comesTo(t, one.s, 1, nil, api.Op{Verb: "remove", Path: "/two"}, drop)
	one.remove("/two")
	one.isSeenAs("/d", "/d/one")
	one.remove("/d/one")
	one.isSeenAs("/d")
}

// P15.1: of two entries of one file with one name in one directory the one at the path goes.
func TestRemoveFileAtOneNameTwice(t *testing.T) {
	l := sites(t, 2)
	one, two := l[0], l[1]
	f := one.create("/f")
	meet(l...)
	one.rename("/f", "/g")
	two.rename("/f", "/g")
	meet(l...)
	one.isSeenAs("/g", "/g~1.2")
	drop := api.Event{ID: id(1, 3), Dep: one.s.Known, Kind: api.KindDrop, Obj: f, Gone: ids(id(1, 2))}
	comesTo(t, one.s, 1, nil, api.Op{Verb: "remove", Path: "/g~1.2"}, drop)
	drop.Gone = ids(id(2, 1))
	comesTo(t, one.s, 1, nil, api.Op{Verb: "remove", Path: "/g"}, drop)
	// By its own name the other entry is there then.
	one.remove("/g")
	one.isSeenAs("/g")
}

// P15.1: a file in lost+found has no entry that could go, and isn't there any more all the same; written meanwhile, it is there again.
func TestRemoveLostFile(t *testing.T) {
	one, two := grove(t)
	comesTo(t, one.s, 1, nil, api.Op{Verb: "remove", Path: "/lost+found/l~1.9"}, api.Event{ID: id(1, 21), Dep: one.s.Known, Kind: api.KindDrop, Obj: id(1, 9)})
	one.remove("/lost+found/l~1.9")
	two.write("/lost+found/l~1.9", "newer")
	one.refuses(api.ErrNone, api.Op{Verb: "remove", Path: "/lost+found/l~1.9"})
	one.hears(two)
	one.remove("/lost+found/l~1.9")
	one.refuses(api.ErrNone, api.Op{Verb: "remove", Path: "/lost+found/l~1.9"})
}

// P15.1: a directory in which something is displayed stays.
func TestRemoveBusyDirectory(t *testing.T) {
	x, _ := grove(t)
	for _, at := range []string{"/d", "/d/e", "/n", "/lost+found/p~1.7", "/lost+found/h~1.12"} {
		x.refuses(api.ErrBusy, api.Op{Verb: "remove", Path: at})
		refuses(t, api.ErrBusy, x.s, 2, []string{at}, api.Op{Verb: "remove", Path: at})
	}
	x.remove("/d/e/f")
	x.remove("/d/e")
	x.refuses(api.ErrBusy, api.Op{Verb: "remove", Path: "/d"})
	x.rename("/d/g", "/g")
	x.remove("/d")
	// Without what was in it a directory without entries isn't there any more.
	x.remove("/lost+found/h~1.12/late")
	x.refuses(api.ErrNone, api.Op{Verb: "remove", Path: "/lost+found/h~1.12"})
}

// P15.1: what is displayed in a directory is there, also if it isn't chosen, or its path is longer than a path can be.
func TestRemoveBusyWhateverIsSeen(t *testing.T) {
	x := sites(t, 1)[0]
	x.mkdir("/a")
	x.mkdir("/a/in")
	at := ""
	for range api.MaxDepth - 1 {
		at += "/d"
		x.mkdir(at)
	}
	refuses(t, api.ErrBusy, x.s, 1, []string{"/a/other", "/a"}, api.Op{Verb: "remove", Path: "/a"})
	x.rename("/a", at+"/a")
	x.refuses(api.ErrBusy, api.Op{Verb: "remove", Path: at + "/a"})
	x.refuses(api.ErrPath, api.Op{Verb: "remove", Path: at + "/a/in"})
	x.rename(at+"/a", "/a")
	x.remove("/a/in")
	x.remove("/a")
}

// P15.1: an empty directory goes by all its entries.
func TestRemoveEmptyDirectory(t *testing.T) {
	l := sites(t, 3)
	one, two, three := l[0], l[1], l[2]
	d := one.mkdir("/d")
	one.mkdir("/e")
	meet(l...)
	one.rename("/d", "/e/one")
	two.rename("/d", "/two")
	three.rename("/d", "/three")
	meet(l...)
	one.isSeenAs("/e", "/e/one")
	comesTo(t, three.s, 3, nil, api.Op{Verb: "remove", Path: "/e/one"}, api.Event{ID: id(3, 2), Dep: one.s.Known, Kind: api.KindDrop, Obj: d, Gone: ids(id(2, 1), id(3, 1), id(1, 3))})
	three.remove("/e/one")
	three.isSeenAs("/e")
	three.remove("/e")
	three.isSeenAs()
}

// P15.1: entries that aren't displayed in a directory keep nobody from removing it: those that went, that aren't homes, that are of what is lost.
func TestRemoveDirectoryOfWhatIsNotSeen(t *testing.T) {
	x := sites(t, 1)[0]
	d := x.mkdir("/d")
	other := x.mkdir("/other")
	x.create("/d/f")
	x.refuses(api.ErrBusy, api.Op{Verb: "remove", Path: "/d"})
	x.remove("/d/f")
	x.link(other, d, "low")
	x.link(other, root, "high")
	x.isSeenAs("/d", "/high")
	comesTo(t, x.s, 1, nil, api.Op{Verb: "remove", Path: "/d"}, api.Event{ID: id(1, 7), Dep: x.s.Known, Kind: api.KindDrop, Obj: d, Gone: ids(d)})
	x.remove("/d")
	x.isSeenAs("/high")
	// A directory that is in itself alone, and is lost.
	comesTo(t, x.s, 1, nil, api.Op{Verb: "remove", Path: "/high"}, api.Event{ID: id(1, 8), Dep: x.s.Known, Kind: api.KindDrop, Obj: other, Gone: ids(other, id(1, 5), id(1, 6))})
	x.link(other, other, "own")
	x.isSeenAs("/lost+found", "/lost+found/own~1.2")
	comesTo(t, x.s, 1, nil, api.Op{Verb: "remove", Path: "/lost+found/own~1.2"}, api.Event{ID: id(1, 9), Dep: x.s.Known, Kind: api.KindDrop, Obj: other, Gone: ids(other, id(1, 5), id(1, 6), id(1, 8))})
	x.remove("/lost+found/own~1.2")
	x.isSeenAs()
}

// P15.1: of two directories in each other the one that isn't lost holds just the home of the lost one, which isn't displayed there; without it, that one is.
func TestRemoveOneOfRing(t *testing.T) {
	l := sites(t, 2)
	one, two := l[0], l[1]
	one.mkdir("/p")
	q := one.mkdir("/q")
	meet(l...)
	one.rename("/p", "/q/p")
	two.rename("/q", "/p/q")
	meet(l...)
	one.isSeenAs("/lost+found", "/lost+found/p~1.1", "/lost+found/p~1.1/q")
	one.refuses(api.ErrBusy, api.Op{Verb: "remove", Path: "/lost+found/p~1.1"})
	comesTo(t, one.s, 1, nil, api.Op{Verb: "remove", Path: "/lost+found/p~1.1/q"}, api.Event{ID: id(1, 4), Dep: one.s.Known, Kind: api.KindDrop, Obj: q, Gone: ids(id(2, 1))})
	one.remove("/lost+found/p~1.1/q")
	one.isSeenAs("/lost+found", "/lost+found/q~1.2", "/lost+found/q~1.2/p")
	one.remove("/lost+found/q~1.2/p")
	one.isSeenAs()
}

// manyHomes is a replica that sees a directory 1.1, with so many entries that are alive: /a0, /a1 and so on.
func manyHomes(t *testing.T, n int) *site {
	t.Helper()
	x := sites(t, 1)[0]
	d := x.mkdir("/a0")
	for i := 1; i < n; i++ {
		x.link(d, root, "a"+string(rune('0'+i)))
	}
	return x
}

// P15.1: of a directory with more entries than MaxIDs the first ones go.
func TestRemoveDirectoryWithManyEntries(t *testing.T) {
	for n := 1; n <= 10; n++ {
		x := manyHomes(t, n)
		at := "/a" + string(rune('0'+n-1))
		x.isSeenAs(at)
		var gone []api.ID
		for i := range min(n, api.MaxIDs) {
			gone = append(gone, id(1, uint32(i+1)))
		}
		comesTo(t, x.s, 2, nil, api.Op{Verb: "remove", Path: at}, api.Event{ID: id(2, 1), Dep: x.s.Known, Kind: api.KindDrop, Obj: id(1, 1), Gone: gone})
		comesTo(t, x.s, 2, nil, api.Op{Verb: "rename", Path: at, To: "/b"}, api.Event{ID: id(2, 1), Dep: x.s.Known, Kind: api.KindMove, Obj: id(1, 1), Gone: gone, Name: "b"})
		x.remove(at)
		if n > api.MaxIDs {
			x.isSeenAs(at)
			x.remove(at)
		}
		x.isSeenAs()
	}
}

// P15.1: entries that went, be they swept or not, don't go again.
func TestGoneEntries(t *testing.T) {
	x := sites(t, 1)[0]
	d := x.mkdir("/d")
	f := x.create("/f")
	x.rename("/d", "/e")
	x.rename("/f", "/g")
	x.rename("/e", "/d")
	x.rename("/g", "/f")
	for _, s := range []api.State{x.s, swept(x.s, x.s.Known), swept(x.s, api.Vec{3})} {
		comesTo(t, s, 1, nil, api.Op{Verb: "remove", Path: "/d"}, api.Event{ID: id(1, 7), Dep: x.s.Known, Kind: api.KindDrop, Obj: d, Gone: ids(id(1, 5))})
		comesTo(t, s, 1, nil, api.Op{Verb: "remove", Path: "/f"}, api.Event{ID: id(1, 7), Dep: x.s.Known, Kind: api.KindDrop, Obj: f, Gone: ids(id(1, 6))})
	}
}
