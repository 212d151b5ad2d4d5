package view_test

import (
	"strings"
	"testing"

	"wardship/api"
	"wardship/view"
)

// P13.2: what is no path is refused as such, whatever is there.
func TestNoPath(t *testing.T) {
	for _, s := range []api.State{{}, grove(t)} {
		for _, at := range []string{
			"", "d", "d/e", "/d/", "//", "//d", "/d//e", "/.", "/..", "/d/..", "/ ", "/d e", "/a~", "/a~1", "/a~1.", "/a~1.x", "/a~01.5",
			"/lost+found/", "/lost+found~1.1", "/+", "/lost+foun", "/d\x00", "/é", "/abcdefghijklm", "/d/e/f/abcdefghijklm",
			strings.Repeat("/d", 11), strings.Repeat("/abcdefghijkl", 10),
		} {
			isRefused(t, s, at, api.ErrPath, api.ErrPath)
		}
	}
}

// P13.2: the longest paths are paths.
func TestLongPaths(t *testing.T) {
	s := grove(t)
	isRefused(t, s, strings.Repeat("/x", 10), api.ErrNone, api.ErrNone)
	isRefused(t, s, strings.Repeat("/abcdefghijk", 10), api.ErrNone, api.ErrNone)
	isRefused(t, s, "/d/e/f"+strings.Repeat("/x", 7), api.ErrNotDir, api.ErrNotDir)
}

// P13.2: names that aren't displayed where they are sought: others, parts of others, those of what is elsewhere, tags of others.
func TestNotThere(t *testing.T) {
	s := grove(t)
	for _, at := range []string{
		"/x", "/D", "/dd", "/lost", "/e", "/f", "/a", "/p", "/q", "/d/f", "/d/d", "/d/e/g", "/d/e/e", "/d~1.1", "/d/g~1.4", "/z~1.8",
		"/lost+found/a", "/lost+found/a~1.6", "/lost+found/a~2.3", "/lost+found/p", "/lost+found/q~1.7", "/lost+found/d", "/lost+found/d~1.1",
		"/lost+found/p~1.6/p", "/lost+found/p~1.6/q/p", "/d/lost+found", "/lost+found/lost+found", "/a~1.5", "/p~1.6",
	} {
		isRefused(t, s, at, api.ErrNone, api.ErrNone)
	}
	isRefused(t, api.State{}, "/a", api.ErrNone, api.ErrNone)
	isRefused(t, api.State{}, "/lost+found", api.ErrNone, api.ErrNone)
	isRefused(t, api.State{}, "/lost+found/a~1.1", api.ErrNone, api.ErrNone)
}

// P13.2: the first part that is wrong decides: behind a file no name is sought, behind what isn't there neither.
func TestThroughFiles(t *testing.T) {
	s := grove(t)
	for _, at := range []string{"/z/x", "/z/x/y", "/z/z", "/d/g/g", "/d/e/f/f", "/d/e/f/lost+found", "/lost+found/a~1.5/a", "/lost+found/p~1.6/inner/x"} {
		isRefused(t, s, at, api.ErrNotDir, api.ErrNotDir)
	}
	for _, at := range []string{"/x/z/x", "/d/x/g/g", "/lost+found/x/a~1.5/a"} {
		isRefused(t, s, at, api.ErrNone, api.ErrNone)
	}
	// A path that is none is refused first, even through a file.
	isRefused(t, s, "/z/x/", api.ErrPath, api.ErrPath)
	isRefused(t, s, "/z/..", api.ErrPath, api.ErrPath)
}

// P13.2: In of a file is refused, wherever it is, while Find finds it.
func TestInOfFiles(t *testing.T) {
	s := grove(t)
	for _, at := range []string{"/z", "/d/g", "/d/e/f", "/lost+found/a~1.5", "/lost+found/p~1.6/inner"} {
		if n, err := view.Find(s, at); err != api.OK || n.Path != at || n.Dir {
			t.Errorf("%s: %+v, %d", at, n, err)
		}
		if l, err := view.In(s, at); err != api.ErrNotDir || len(l) != 0 {
			t.Errorf("%s: %+v, %d", at, l, err)
		}
	}
}

// isIn checks the paths of what is in a directory.
func isIn(t *testing.T, s api.State, at string, want ...string) {
	t.Helper()
	l, err := view.In(s, at)
	if got := strings.Join(pathsOf(l), " "); err != api.OK || got != strings.Join(want, " ") {
		t.Errorf("In of %s: %s, %d, not %v", at, got, err, want)
	}
}

// P13.2: what is in directories, in order: in the root, below it, in lost+found, in what is there, in one that is empty.
func TestIn(t *testing.T) {
	s := grove(t)
	isIn(t, s, "/", "/d", "/z", "/lost+found")
	isIn(t, s, "/d", "/d/e", "/d/g")
	isIn(t, s, "/d/e", "/d/e/f")
	isIn(t, s, "/lost+found", "/lost+found/a~1.5", "/lost+found/p~1.6")
	isIn(t, s, "/lost+found/p~1.6", "/lost+found/p~1.6/inner", "/lost+found/p~1.6/q")
	isIn(t, s, "/lost+found/p~1.6/q")
	isIn(t, api.State{}, "/")
	isTree(t, s)
}

// P13.2: names with tags are found, and gone through.
func TestTaggedNames(t *testing.T) {
	l := sites(t, 2)
	a := l[0].dir(root, "a")
	l[0].file(a, "x")
	b := l[1].dir(root, "a")
	l[1].file(b, "y")
	meet(l...)
	isIn(t, l[0].s, "/", "/a", "/a~2.1")
	isIn(t, l[0].s, "/a~2.1", "/a~2.1/y")
	isIn(t, l[0].s, "/a", "/a/x")
	isAt(t, l[0].s, api.Node{Path: "/a~2.1/y", Obj: id(2, 2), Entry: id(2, 2)})
	isRefused(t, l[0].s, "/a~1.1", api.ErrNone, api.ErrNone)
	isRefused(t, l[0].s, "/a~2.1/x", api.ErrNone, api.ErrNone)
	// Without the first one the second has the name.
	l[0].drop(id(1, 2))
	l[0].drop(a)
	isIn(t, l[0].s, "/", "/a")
	isRefused(t, l[0].s, "/a~2.1", api.ErrNone, api.ErrNone)
}
