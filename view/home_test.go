package view_test

import (
	"testing"

	"wardship/api"
	"wardship/view"
)

// P13.1: a directory with one entry is where that is, and where it was moved to.
func TestHomeOfOneEntry(t *testing.T) {
	x := sites(t, 1)[0]
	d := x.dir(root, "d")
	e := x.dir(root, "e")
	x.file(d, "f")
	isSeenAs(t, x.s, "/d", "/d/f", "/e")
	x.move(d, e, "D")
	isSeenAs(t, x.s, "/e", "/e/D", "/e/D/f")
	x.move(d, root, "back")
	isSeenAs(t, x.s, "/back", "/back/f", "/e")
}

// P13.1: of several entries the greatest number is a directory's home, whichever came last; that is the one by Seq, then by Rep.
func TestHomeOfSeveralEntries(t *testing.T) {
	l := sites(t, 3)
	one, two, three := l[0], l[1], l[2]
	d := one.dir(root, "d")
	one.file(d, "f")
	meet(l...)
	// 1.3, 2.1 and 3.1, each without the others: 1.3 is the greatest.
	one.move(d, root, "one")
	two.move(d, root, "two")
	three.move(d, root, "three")
	for _, order := range [][]*site{{one, two, three}, {three, two, one}, {two, three, one}, {two, one, three}, {one, three, two}, {three, one, two}} {
		x := &site{t: t, rep: 4}
		x.hears(order[0])
		x.hears(order[1])
		x.hears(order[2])
		isSeenAs(t, x.s, "/one", "/one/f")
		n, err := view.Find(x.s, "/one")
		isNode(t, "the home", n, err, api.Node{Path: "/one", Obj: d, Entry: id(1, 3), Dir: true})
	}
	two.hears(three)
	isSeenAs(t, two.s, "/three", "/three/f")
	// 2.2 makes an end of all that it knows; 1.3 stays, and is greater.
	two.move(d, root, "mine")
	isSeenAs(t, two.s, "/mine", "/mine/f")
	two.hears(one)
	isSeenAs(t, two.s, "/one", "/one/f")
}

// P13.1: an entry that went is no home, however great its number.
func TestHomeIsAlive(t *testing.T) {
	l := sites(t, 2)
	one, two := l[0], l[1]
	d := one.dir(root, "d")
	meet(l...)
	low := one.link(d, root, "low")
	two.link(d, root, "b")
	high := two.link(d, root, "high")
	meet(l...)
	isSeenAs(t, one.s, "/high")
	one.does(api.Event{Kind: api.KindDrop, Obj: d, Gone: ids(high)})
	isSeenAs(t, one.s, "/low")
	one.does(api.Event{Kind: api.KindDrop, Obj: d, Gone: ids(low)})
	isSeenAs(t, one.s, "/b")
	one.does(api.Event{Kind: api.KindDrop, Obj: d, Gone: ids(d, id(2, 1))})
	isSeenAs(t, one.s)
}

// P13.1: what hangs on a directory goes where its home is; an entry of it that isn't its home holds nothing.
func TestEntriesThatAreNotHomes(t *testing.T) {
	x := sites(t, 1)[0]
	d := x.dir(root, "d")
	e := x.dir(root, "e")
	x.file(d, "f")
	x.link(d, e, "second")
	isSeenAs(t, x.s, "/e", "/e/second", "/e/second/f")
	x.link(d, root, "third")
	isSeenAs(t, x.s, "/e", "/third", "/third/f")
}

// P13.1: a directory that has no entries any more, with nothing in it, isn't seen.
func TestNoHome(t *testing.T) {
	x := sites(t, 1)[0]
	d := x.dir(root, "d")
	f := x.file(d, "f")
	x.drop(f)
	x.drop(d)
	isSeenAs(t, x.s)
	isLostOnes(t, x.s)
}

// P13.1: a file is seen at each of its entries that are alive, in one directory and in several.
func TestPlacesOfFiles(t *testing.T) {
	x := sites(t, 1)[0]
	d := x.dir(root, "d")
	f := x.file(root, "f")
	x.write(f, "x")
	x.link(f, d, "g")
	two := x.link(f, d, "f")
	x.link(f, root, "a")
	isSeenAs(t, x.s, "/a", "/d", "/d/f", "/d/g", "/f")
	for _, at := range []string{"/a", "/d/f", "/d/g", "/f"} {
		if n, err := view.Find(x.s, at); err != api.OK || n.Obj != f || n.Data != "x" {
			t.Errorf("%s: %+v, %d", at, n, err)
		}
	}
	x.does(api.Event{Kind: api.KindDrop, Obj: f, Gone: ids(f, two)})
	isSeenAs(t, x.s, "/a", "/d", "/d/g")
	x.drop(f)
	isSeenAs(t, x.s, "/d")
}

// P13.1: a file that two replicas moved apart is seen at both places.
func TestFileMovedTwice(t *testing.T) {
	l := sites(t, 2)
	f := l[0].file(root, "f")
	meet(l...)
	l[0].move(f, root, "one")
	l[1].move(f, root, "two")
	meet(l...)
	isSeenAs(t, l[0].s, "/one", "/two")
	l[0].move(f, root, "f")
	isSeenAs(t, l[0].s, "/f")
}
