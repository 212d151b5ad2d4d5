package volume_test

import (
	"testing"

	"wardship/api"
	"wardship/choose"
	"wardship/view"
	"wardship/volume"
)

// stats checks the error of Stat, Read and Versions at a path.
func stats(t *testing.T, s api.State, chosen []string, at string, stat, read, versions api.Errno) {
	t.Helper()
	n, err := volume.Stat(s, chosen, at)
	if err != stat || err != api.OK && !sameNode(n, api.Node{}) {
		t.Errorf("Stat(%q, %q) = %+v, %d, not %d", chosen, at, n, err, stat)
	}
	text, err := volume.Read(s, chosen, at)
	if err != read || err != api.OK && text != "" {
		t.Errorf("Read(%q, %q) = %q, %d, not %d", chosen, at, text, err, read)
	}
	l, err := volume.Versions(s, chosen, at)
	if err != versions || err != api.OK && len(l) != 0 {
		t.Errorf("Versions(%q, %q) = %q, %d, not %d", chosen, at, l, err, versions)
	}
	isRead(t, s, chosen, at)
}

// P15.2: no path, ahead of one that isn't chosen; that ahead of what isn't there; that ahead of what is no file.
func TestStatErrors(t *testing.T) {
	x, _ := grove(t)
	for _, chosen := range lists() {
		for _, at := range noPaths() {
			stats(t, x.s, chosen, at, api.ErrPath, api.ErrPath, api.ErrPath)
		}
	}
	for _, at := range []string{"/", "/d", "/z", "/c", "/d/g", "/none", "/d/none", "/z/none", "/lost+found", "/lost+found/l~1.9"} {
		for _, chosen := range [][]string{{"/d/e"}, {"/d/e/f"}, {"x"}, {"", "/no"}, {"/d/e", "/d/e/f", "/d/e"}} {
			stats(t, x.s, chosen, at, api.ErrChosen, api.ErrChosen, api.ErrChosen)
		}
	}
	for _, at := range []string{"/none", "/d/none", "/none/z", "/l", "/lost+found/none", "/lost+found/l", "/n~2.5"} {
		stats(t, x.s, nil, at, api.ErrNone, api.ErrNone, api.ErrNone)
		stats(t, x.s, []string{at}, at, api.ErrNone, api.ErrNone, api.ErrNone)
	}
	for _, at := range []string{"/z/none", "/c/c", "/d/e/f/g", "/lost+found/l~1.9/none"} {
		stats(t, x.s, nil, at, api.ErrNotDir, api.ErrNotDir, api.ErrNotDir)
		stats(t, x.s, []string{at}, at, api.ErrNotDir, api.ErrNotDir, api.ErrNotDir)
	}
	for _, at := range []string{"/", "/d", "/d/e", "/n", "/void", "/lost+found", "/lost+found/p~1.7", "/lost+found/p~1.7/q"} {
		stats(t, x.s, nil, at, api.OK, api.ErrIsDir, api.ErrIsDir)
		stats(t, x.s, []string{at}, at, api.OK, api.ErrIsDir, api.ErrIsDir)
	}
	stats(t, x.s, nil, "/c", api.OK, api.ErrConflict, api.OK)
	stats(t, api.State{}, nil, "/", api.OK, api.ErrIsDir, api.ErrIsDir)
	stats(t, api.State{}, nil, "/lost+found", api.ErrNone, api.ErrNone, api.ErrNone)
}

// P15.2: Stat is the node there: the root, lost+found, a directory, files with no version, with one, with two, what is in lost+found.
func TestStat(t *testing.T) {
	x, _ := grove(t)
	for _, n := range []api.Node{
		{Path: "/", Dir: true},
		{Path: "/lost+found", Dir: true},
		{Path: "/d", Obj: id(1, 1), Entry: id(1, 1), Dir: true},
		{Path: "/z", Obj: id(1, 4), Entry: id(1, 4)},
		{Path: "/d/e/f", Obj: id(1, 3), Entry: id(1, 3), Heads: ids(id(1, 5)), Data: "text"},
		{Path: "/c", Obj: id(1, 11), Entry: id(1, 11), Heads: ids(id(2, 1), id(1, 15))},
		{Path: "/n~1.20", Obj: id(1, 20), Entry: id(1, 20)},
		{Path: "/lost+found/p~1.7", Obj: id(1, 7), Dir: true},
		{Path: "/lost+found/p~1.7/q", Obj: id(1, 8), Entry: id(2, 2), Dir: true},
		{Path: "/lost+found/l~1.9", Obj: id(1, 9), Heads: ids(id(2, 3)), Data: "new"},
	} {
		for _, chosen := range [][]string{nil, {n.Path}, {"/"}, {"x", n.Path, n.Path}} {
			got, err := volume.Stat(x.s, chosen, n.Path)
			if err != api.OK || !sameNode(got, n) {
				t.Errorf("Stat(%q, %q) = %+v, %d, not %+v", chosen, n.Path, got, err, n)
			}
		}
	}
}

// reads checks the bytes of a file that has one latest version, or none.
func reads(t *testing.T, s api.State, at, want string) {
	t.Helper()
	for _, chosen := range [][]string{nil, {at}, {"/"}} {
		text, err := volume.Read(s, chosen, at)
		isTexts(t, "Read of "+at, []string{text}, err, want)
	}
}

// P15.2: the bytes of files: of no version, of one, be it empty, written by another replica, in lost+found.
func TestRead(t *testing.T) {
	x, _ := grove(t)
	reads(t, x.s, "/z", "")
	reads(t, x.s, "/d/g", "")
	reads(t, x.s, "/n~1.20", "")
	reads(t, x.s, "/d/e/f", "text")
	reads(t, x.s, "/lost+found/l~1.9", "new")
	x.asks(api.Op{Verb: "cut", Path: "/d/e/f"})
	reads(t, x.s, "/d/e/f", "")
	x.write("/d/g", "\x00\xff")
	reads(t, x.s, "/d/g", "\x00\xff")
	x.write("/d/g", texts(200))
	reads(t, swept(x.s, x.s.Known), "/d/g", texts(200))
	x.asks(api.Op{Verb: "fix", Path: "/c", Data: "both"})
	reads(t, x.s, "/c", "both")
}

// P15.2: the latest versions in the order of their numbers, which is that by Seq ahead of that by Rep: none, one, several, many, also equal and empty ones.
func TestVersions(t *testing.T) {
	x, _ := grove(t)
	for at, want := range map[string][]string{"/z": nil, "/d/e/f": {"text"}, "/c": {"two", "one"}, "/lost+found/l~1.9": {"new"}} {
		for _, chosen := range [][]string{nil, {at}} {
			l, err := volume.Versions(x.s, chosen, at)
			isTexts(t, at, l, err, want...)
		}
	}
	s := split(t, 12)
	l, err := volume.Versions(s, nil, "/f")
	isTexts(t, "/f", l, err, "a", "b", "c", "d", "e", "f", "g", "h", "i", "j", "k", "l")
	stats(t, s, nil, "/f", api.OK, api.ErrConflict, api.OK)
	all := sites(t, 3)
	all[0].create("/f")
	meet(all...)
	all[2].write("/f", "same")
	all[1].write("/f", "same")
	all[0].asks(api.Op{Verb: "cut", Path: "/f"})
	meet(all...)
	l, err = volume.Versions(all[0].s, nil, "/f")
	isTexts(t, "/f", l, err, "same", "same", "")
}

// isList checks what List answers for a directory.
func isList(t *testing.T, s api.State, chosen []string, at string, want ...string) {
	t.Helper()
	l, err := volume.List(s, chosen, at)
	isTexts(t, "List of "+at, l, err, want...)
	isListed(t, s, chosen, at)
}

// isNoList checks the error of List.
func isNoList(t *testing.T, want api.Errno, s api.State, chosen []string, at string) {
	t.Helper()
	if l, err := volume.List(s, chosen, at); err != want || len(l) != 0 {
		t.Errorf("List(%q, %q) = %q, %d, not %d", chosen, at, l, err, want)
	}
	isListed(t, s, chosen, at)
}

// P15.2: no path, ahead of one that isn't chosen and leads to nothing that is; that ahead of what isn't there, and of what is a file.
func TestListErrors(t *testing.T) {
	x, _ := grove(t)
	for _, chosen := range lists() {
		for _, at := range noPaths() {
			isNoList(t, api.ErrPath, x.s, chosen, at)
			isNoList(t, api.ErrPath, x.s, []string{at}, at)
		}
	}
	for _, at := range []string{"/d/e", "/z", "/c", "/none", "/void/none", "/lost+found", "/z/none", "/d/none"} {
		for _, chosen := range [][]string{{"/d/g"}, {"x"}, {"/n", "/d/g", "/dd"}} {
			isNoList(t, api.ErrChosen, x.s, chosen, at)
		}
	}
	isNoList(t, api.ErrChosen, x.s, []string{"x"}, "/")
	for _, chosen := range [][]string{nil, {"/"}, {"/none", "/d/none", "/lost+found/none"}, {"/none/a", "/d/none/a", "/lost+found/none/a"}} {
		isNoList(t, api.ErrNone, x.s, chosen, "/none")
		isNoList(t, api.ErrNone, x.s, chosen, "/d/none")
		isNoList(t, api.ErrNone, x.s, chosen, "/lost+found/none")
	}
	for _, chosen := range [][]string{nil, {"/"}, {"/z", "/d/g", "/z/a"}, {"/z/a/b", "/d/g/a"}} {
		isNoList(t, api.ErrNotDir, x.s, chosen, "/z")
		isNoList(t, api.ErrNotDir, x.s, chosen, "/d/g")
		isNoList(t, api.ErrNotDir, x.s, append([]string{"/z/a"}, chosen...), "/z/a")
	}
	isNoList(t, api.ErrNone, api.State{}, nil, "/lost+found")
	isList(t, api.State{}, nil, "/")
}

// P15.2: all that is displayed in a directory, in order, where all is chosen.
func TestList(t *testing.T) {
	x, _ := grove(t)
	for _, chosen := range [][]string{nil, {"/"}, {"/", "/d"}} {
		isList(t, x.s, chosen, "/", "c", "d", "n", "n~1.20", "void", "z", "lost+found")
		isList(t, x.s, chosen, "/d", "e", "g")
		isList(t, x.s, chosen, "/d/e", "f")
		isList(t, x.s, chosen, "/void")
		isList(t, x.s, chosen, "/lost+found", "p~1.7", "l~1.9", "h~1.12")
		isList(t, x.s, chosen, "/lost+found/p~1.7", "in", "q")
		isList(t, x.s, chosen, "/lost+found/p~1.7/q")
	}
}

// P15.2: of what is displayed in a directory that is listed which is chosen, and which leads to what is; nothing else, and nothing that isn't there.
func TestListOfSome(t *testing.T) {
	x, _ := grove(t)
	some := []string{"/d/e", "/lost+found/p~1.7/q", "/none/a", "/z"}
	isList(t, x.s, some, "/", "d", "z", "lost+found")
	isList(t, x.s, some, "/d", "e")
	isList(t, x.s, some, "/d/e", "f")
	isList(t, x.s, some, "/lost+found", "p~1.7")
	isList(t, x.s, some, "/lost+found/p~1.7", "q")
	isList(t, x.s, some, "/lost+found/p~1.7/q")
	isNoList(t, api.ErrChosen, x.s, some, "/n")
	isNoList(t, api.ErrChosen, x.s, some, "/lost+found/h~1.12")
	isNoList(t, api.ErrNone, x.s, some, "/none")
	isList(t, x.s, []string{"/n~1.20/a"}, "/", "n~1.20")
	isList(t, x.s, []string{"/n/x"}, "/", "n")
	isList(t, x.s, []string{"/none"}, "/")
	isList(t, x.s, []string{"/d/none"}, "/d")
	isList(t, x.s, []string{"/d/none"}, "/", "d")
	isList(t, x.s, []string{"/d/g", "x", "/d/g", "/d/g/a"}, "/d", "g")
}

// P15.2: what is displayed at a path that is longer than a path can be is listed where all is chosen by no list; such a path lies in none.
func TestListOfLongPaths(t *testing.T) {
	x := sites(t, 1)[0]
	x.mkdir("/a")
	x.mkdir("/a/in")
	x.create("/a/file")
	at := ""
	for range api.MaxDepth - 1 {
		at += "/d"
		x.mkdir(at)
	}
	x.rename("/a", at+"/a")
	isList(t, x.s, nil, at+"/a", "file", "in")
	isList(t, x.s, []string{"/"}, at+"/a")
	isList(t, x.s, []string{"/"}, at, "a")
	isNoList(t, api.ErrPath, x.s, nil, at+"/a/in")
	stats(t, x.s, nil, at+"/a/file", api.ErrPath, api.ErrPath, api.ErrPath)
	isVolume(t, x.s, nil)
	isVolume(t, x.s, []string{"/"})
}

// walks checks the paths that are walked over.
func walks(t *testing.T, s api.State, chosen []string, want ...string) {
	t.Helper()
	var got []string
	for n := range volume.Walk(s, chosen) {
		got = append(got, n.Path)
	}
	isTexts(t, "Walk", got, api.OK, want...)
	var nodes, only []api.Node
	for n := range volume.Walk(s, chosen) {
		nodes = append(nodes, n)
	}
	for n := range choose.Only(chosen, view.Walk(s)) {
		only = append(only, n)
	}
	isNodes(t, "Walk", nodes, only)
}

// P15.2: Walk gives what Only of Walk gives: all, some, what leads there, nothing.
func TestWalk(t *testing.T) {
	x, _ := grove(t)
	walks(t, x.s, nil, grovePaths()...)
	walks(t, x.s, []string{"/"}, grovePaths()...)
	walks(t, x.s, []string{"/d/e", "/lost+found/p~1.7/q", "/none/a", "/z"}, "/d", "/d/e", "/d/e/f", "/z", "/lost+found", "/lost+found/p~1.7", "/lost+found/p~1.7/q")
	walks(t, x.s, []string{"/z", "/z", "/d", "/d/e", "x"}, "/d", "/d/e", "/d/e/f", "/d/g", "/z")
	walks(t, x.s, []string{"/none"})
	walks(t, x.s, []string{"x"})
	walks(t, api.State{}, nil)
	walks(t, api.State{}, []string{"/"})
	for _, chosen := range append(lists(), noPaths(), grovePaths()) {
		isVolume(t, x.s, chosen)
		isVolume(t, swept(x.s, x.s.Known), chosen)
		isVolume(t, api.State{}, chosen)
	}
}

// Rule 7: a walk is stopped at any node, goes on to nothing then, and begins anew each time.
func TestWalkStops(t *testing.T) {
	x, _ := grove(t)
	for _, chosen := range [][]string{nil, {"/d", "/lost+found"}, {"/none"}} {
		walk := volume.Walk(x.s, chosen)
		var all []api.Node
		for n := range walk {
			all = append(all, n)
		}
		for stop := range all {
			var some []api.Node
			walk(func(n api.Node) bool {
				some = append(some, n)
				return len(some) <= stop
			})
			isNodes(t, "a walk that is stopped", some, all[:stop+1])
		}
		for range 2 {
			var again []api.Node
			for n := range walk {
				again = append(again, n)
				for m := range walk {
					isNodes(t, "a walk within a walk", []api.Node{m}, all[:1])
					break
				}
			}
			isNodes(t, "a walk gone over again", again, all)
		}
	}
}
