package view_test

import (
	"slices"
	"testing"

	"wardship/api"
	"wardship/view"
)

// grove is a state with files and directories on several levels, and with some that are lost.
func grove(t *testing.T) api.State {
	t.Helper()
	l := sites(t, 2)
	one, two := l[0], l[1]
	d := one.dir(root, "d")
	e := one.dir(d, "e")
	f := one.file(e, "f")
	one.file(d, "g")
	a := one.file(root, "a")
	p := one.dir(root, "p")
	q := one.dir(root, "q")
	one.file(root, "z")
	one.write(f, "six")
	one.write(a, "one")
	meet(one, two)
	one.move(p, q, "p")
	two.move(q, p, "q")
	two.file(p, "inner")
	one.drop(a)
	two.write(a, "two")
	meet(one, two)
	return two.s
}

// grovePaths are the paths of the grove's nodes, worked out by hand.
func grovePaths() []string {
	return []string{
		"/d", "/d/e", "/d/e/f", "/d/g", "/z", "/lost+found", "/lost+found/a~1.5",
		"/lost+found/p~1.6", "/lost+found/p~1.6/inner", "/lost+found/p~1.6/q",
	}
}

// P13.1: nothing is seen of nothing; the iterator is there all the same.
func TestWalkOfNothing(t *testing.T) {
	all := view.Walk(api.State{})
	if all == nil {
		t.Fatal("the iterator is nil")
	}
	for n := range all {
		t.Errorf("%+v", n)
	}
	isSeenAs(t, api.State{})
	isSeenAs(t, api.State{Known: api.Vec{3}, Wards: [8]int{1}, Retired: [8]bool{true}})
}

// P13.1: files and directories in the root and in directories.
func TestWalk(t *testing.T) {
	x := sites(t, 1)[0]
	x.file(root, "m")
	isSeenAs(t, x.s, "/m")
	d := x.dir(root, "d")
	isSeenAs(t, x.s, "/d", "/m")
	x.file(d, "f")
	isSeenAs(t, x.s, "/d", "/d/f", "/m")
	e := x.dir(d, "e")
	isSeenAs(t, x.s, "/d", "/d/e", "/d/f", "/m")
	x.file(e, "z")
	x.dir(e, "a")
	isSeenAs(t, x.s, "/d", "/d/e", "/d/e/a", "/d/e/z", "/d/f", "/m")
	x.dir(root, "z")
	isSeenAs(t, x.s, "/d", "/d/e", "/d/e/a", "/d/e/z", "/d/f", "/m", "/z")
}

// P13.1: what is in a directory comes right behind it, ahead of what is beside it, even where whole paths would come in another order.
func TestWalkGoesDownFirst(t *testing.T) {
	x := sites(t, 1)[0]
	// By bytes, - and . come ahead of /.
	a := x.dir(root, "a")
	b := x.dir(root, "a-b")
	x.file(root, "a.b")
	x.file(a, "z")
	x.file(b, "y")
	isSeenAs(t, x.s, "/a", "/a/z", "/a-b", "/a-b/y", "/a.b")
	c := x.dir(a, "c")
	x.file(c, "x")
	x.file(a, "c-")
	isSeenAs(t, x.s, "/a", "/a/c", "/a/c/x", "/a/c-", "/a/z", "/a-b", "/a-b/y", "/a.b")
}

// P13.1: the order in a directory is that of the bytes of names.
func TestWalkInOrderOfNames(t *testing.T) {
	x := sites(t, 1)[0]
	for _, name := range []string{"b", "B", "ab", "a", "_", "9", "10", "-", ".x", "b0", "Z", "zz"} {
		x.file(root, name)
	}
	isSeenAs(t, x.s, "/-", "/.x", "/10", "/9", "/B", "/Z", "/_", "/a", "/ab", "/b", "/b0", "/zz")
}

// P13.1: the grove is seen as it must be, as often as one looks.
func TestWalkAgain(t *testing.T) {
	s := grove(t)
	isSeenAs(t, s, grovePaths()...)
	all := view.Walk(s)
	for range 3 {
		if got := pathsOf(slices.Collect(all)); !slices.Equal(got, grovePaths()) {
			t.Errorf("%q", got)
		}
	}
}

// P13.1: one that goes over all while another one does.
func TestWalkWithinWalk(t *testing.T) {
	s := grove(t)
	all := view.Walk(s)
	at := 0
	for n := range all {
		if n.Path != grovePaths()[at] {
			t.Fatalf("%s at %d", n.Path, at)
		}
		at++
		if got := pathsOf(slices.Collect(all)); !slices.Equal(got, grovePaths()) {
			t.Fatalf("%q", got)
		}
	}
	if at != len(grovePaths()) {
		t.Errorf("%d nodes", at)
	}
}

// P13.1, rule 7: who stops at any node, be it the first one, in a directory, or in lost+found, is given no more, and begins anew the next time.
func TestWalkStops(t *testing.T) {
	s := grove(t)
	all := view.Walk(s)
	for last := range grovePaths() {
		var got []string
		all(func(n api.Node) bool {
			got = append(got, n.Path)
			return len(got) <= last
		})
		if !slices.Equal(got, grovePaths()[:last+1]) {
			t.Errorf("stopped at %d: %q", last, got)
		}
		n := 0
		for range all {
			n++
			if n > last {
				break
			}
		}
		if n != last+1 {
			t.Errorf("%d nodes ahead of %d", n, last)
		}
	}
}

// P13.1: directories deeper, and paths longer, than any path may be are seen too, but at no path.
func TestWalkFarDown(t *testing.T) {
	x := sites(t, 1)[0]
	dir, at := root, ""
	var want []string
	for range 14 {
		dir = x.dir(dir, "abcdefghijkl")
		at += "/abcdefghijkl"
		want = append(want, at)
	}
	x.file(dir, "f")
	want = append(want, at+"/f")
	isSeenAs(t, x.s, want...)
	// Nine names of twelve bytes have 117; ten have 130.
	isRefused(t, x.s, want[9], api.ErrPath, api.ErrPath)
	if n, err := view.Find(x.s, want[8]); err != api.OK || n.Path != want[8] {
		t.Errorf("%+v, %d", n, err)
	}
	y := sites(t, 1)[0]
	dir, at, want = root, "", nil
	for range 12 {
		dir = y.dir(dir, "d")
		at += "/d"
		want = append(want, at)
	}
	isSeenAs(t, y.s, want...)
	isRefused(t, y.s, want[10], api.ErrPath, api.ErrPath)
	l, err := view.In(y.s, want[9])
	if err != api.OK || !slices.Equal(pathsOf(l), want[10:11]) {
		t.Errorf("%+v, %d", l, err)
	}
}
