package view_test

import (
	"testing"

	"wardship/api"
	"wardship/view"
)

// P13.1: a file that was removed by one who knew all of it isn't lost, nor seen.
func TestRemovedFile(t *testing.T) {
	x := sites(t, 1)[0]
	f := x.file(root, "f")
	g := x.file(root, "g")
	x.write(f, "one")
	x.write(f, "two")
	x.drop(f)
	isLostOnes(t, x.s)
	isSeenAs(t, x.s, "/g")
	// g has no version at all.
	x.drop(g)
	isLostOnes(t, x.s)
	isSeenAs(t, x.s)
}

// P13.1: a file that was written while it was removed is lost, be it for the first time or again.
func TestFileWrittenMeanwhile(t *testing.T) {
	l := sites(t, 2)
	one, two := l[0], l[1]
	f := one.file(root, "f")
	g := one.file(root, "g")
	one.write(g, "old")
	meet(l...)
	one.drop(f)
	one.drop(g)
	two.write(f, "first")
	two.write(g, "new")
	isLostOnes(t, one.s)
	isLostOnes(t, two.s)
	meet(l...)
	isLostOnes(t, one.s, f, g)
	isSeenAs(t, one.s, "/lost+found", "/lost+found/f~1.1", "/lost+found/g~1.2")
	n, err := view.Find(one.s, "/lost+found/g~1.2")
	isNode(t, "the lost one", n, err, api.Node{Path: "/lost+found/g~1.2", Obj: g, Heads: ids(id(2, 2)), Data: "new"})
	// Removed again, by one who knows the version now, it is gone.
	one.drop(f)
	isLostOnes(t, one.s, g)
	isSeenAs(t, one.s, "/lost+found", "/lost+found/g~1.2")
	// Given a place again, it isn't lost.
	one.move(g, root, "g")
	isLostOnes(t, one.s)
	isSeenAs(t, one.s, "/g")
}

// P13.1: of several latest versions one alone that wasn't seen is enough; older ones don't count.
func TestOneLatestVersionUnseen(t *testing.T) {
	l := sites(t, 3)
	one, two, three := l[0], l[1], l[2]
	f := one.file(root, "f")
	meet(l...)
	one.write(f, "one")
	two.write(f, "two")
	one.hears(two)
	three.write(f, "three")
	one.drop(f)
	isLostOnes(t, one.s)
	one.hears(three)
	isLostOnes(t, one.s, f)
	n, err := view.Find(one.s, "/lost+found/f~1.1")
	isNode(t, "the lost one", n, err, api.Node{Path: "/lost+found/f~1.1", Obj: f, Heads: ids(id(2, 1), id(3, 1), id(1, 2))})
	// 3 wrote 3.1, which 1 didn't know; 1 fixes all, removes it: nothing is lost.
	one.fix(f, "all")
	isLostOnes(t, one.s, f)
	one.drop(f)
	isLostOnes(t, one.s)
}

// P13.1: what those knew who removed a file counts together: two of them, each of whom knew another version.
func TestSeenByTwo(t *testing.T) {
	l := sites(t, 2)
	one, two := l[0], l[1]
	f := one.file(root, "f")
	meet(l...)
	one.write(f, "one")
	two.write(f, "two")
	one.drop(f)
	all := &site{t: t, rep: 3}
	all.hears(one, two)
	isLostOnes(t, all.s, f)
	two.drop(f)
	all.hears(two)
	isLostOnes(t, all.s)
}

// P13.1: a file with an entry that is alive isn't lost, whatever wasn't seen of it.
func TestFileWithEntryIsNotLost(t *testing.T) {
	l := sites(t, 2)
	f := l[0].file(root, "f")
	meet(l...)
	l[0].drop(f)
	l[1].link(f, root, "g")
	l[1].write(f, "x")
	meet(l...)
	isLostOnes(t, l[0].s)
	isSeenAs(t, l[0].s, "/g")
}

// P13.1: a directory that was removed while something was put into it is lost, with what is in it.
func TestDirectoryFilledMeanwhile(t *testing.T) {
	l := sites(t, 2)
	one, two := l[0], l[1]
	d := one.dir(root, "d")
	meet(l...)
	one.drop(d)
	isSeenAs(t, one.s)
	e := two.dir(d, "e")
	f := two.file(e, "f")
	meet(l...)
	isLostOnes(t, one.s, d)
	isSeenAs(t, one.s, "/lost+found", "/lost+found/d~1.1", "/lost+found/d~1.1/e", "/lost+found/d~1.1/e/f")
	// A place of a directory is enough, and so is one of a file; without any it is lost no more.
	one.move(f, d, "f")
	one.drop(e)
	isLostOnes(t, one.s, d)
	isSeenAs(t, one.s, "/lost+found", "/lost+found/d~1.1", "/lost+found/d~1.1/f")
	one.drop(f)
	isLostOnes(t, one.s)
	isSeenAs(t, one.s)
}

// P13.1: only the uppermost directory without a home is lost, if those below it have theirs; each, if none has.
func TestDirectoriesBelowEachOther(t *testing.T) {
	x := sites(t, 1)[0]
	a := x.dir(root, "a")
	b := x.dir(a, "b")
	c := x.dir(b, "c")
	x.file(c, "f")
	x.drop(a)
	isLostOnes(t, x.s, a)
	isSeenAs(t, x.s, "/lost+found", "/lost+found/a~1.1", "/lost+found/a~1.1/b", "/lost+found/a~1.1/b/c", "/lost+found/a~1.1/b/c/f")
	x.drop(b)
	// Nothing is in a now.
	isLostOnes(t, x.s, b)
	isSeenAs(t, x.s, "/lost+found", "/lost+found/b~1.2", "/lost+found/b~1.2/c", "/lost+found/b~1.2/c/f")
	x.drop(c)
	isLostOnes(t, x.s, c)
	x.file(a, "g")
	isLostOnes(t, x.s, a, c)
	isSeenAs(t, x.s, "/lost+found", "/lost+found/a~1.1", "/lost+found/a~1.1/g", "/lost+found/c~1.3", "/lost+found/c~1.3/f")
}

// P13.1: entries in a directory that are no places don't make it lost: those that went, and those of a directory that are not its home.
func TestEntriesThatAreNotPlaces(t *testing.T) {
	x := sites(t, 1)[0]
	d := x.dir(root, "d")
	f := x.file(d, "f")
	e := x.dir(d, "e")
	x.move(f, root, "f")
	x.link(e, root, "e")
	isSeenAs(t, x.s, "/d", "/e", "/f")
	x.drop(d)
	isLostOnes(t, x.s)
	isSeenAs(t, x.s, "/e", "/f")
	// Once the other entry of e goes, that in d is its home.
	x.does(api.Event{Kind: api.KindDrop, Obj: e, Gone: ids(id(1, 5))})
	isLostOnes(t, x.s, d)
	isSeenAs(t, x.s, "/f", "/lost+found", "/lost+found/d~1.1", "/lost+found/d~1.1/e")
}

// The chapter's example: two directories that are moved into each other at once; the one with the lesser number is lost, the other one is in it.
func TestRingOfTwo(t *testing.T) {
	for _, first := range []string{"a", "b"} {
		l := sites(t, 2)
		one, two := l[0], l[1]
		a, b := root, root
		if first == "a" {
			a = one.dir(root, "a")
			b = one.dir(root, "b")
		} else {
			b = one.dir(root, "b")
			a = one.dir(root, "a")
		}
		meet(l...)
		one.move(a, b, "a")
		two.move(b, a, "b")
		isLostOnes(t, one.s)
		isSeenAs(t, one.s, "/b", "/b/a")
		isSeenAs(t, two.s, "/a", "/a/b")
		meet(l...)
		for _, x := range l {
			isLostOnes(t, x.s, id(1, 1))
			if first == "a" {
				isSeenAs(t, x.s, "/lost+found", "/lost+found/a~1.1", "/lost+found/a~1.1/b")
			} else {
				isSeenAs(t, x.s, "/lost+found", "/lost+found/b~1.1", "/lost+found/b~1.1/a")
			}
		}
		// The lost one is seen without its entry, the other one with it.
		lost, err := view.Find(one.s, "/lost+found/"+first+"~1.1")
		isNode(t, "the lost one", lost, err, api.Node{Path: "/lost+found/" + first + "~1.1", Obj: id(1, 1), Dir: true})
		// Moved out of it, nothing is lost any more.
		one.move(id(1, 1), root, "out")
		isLostOnes(t, one.s)
	}
}

// P13.1: rings of one, of three, and of many.
func TestRings(t *testing.T) {
	x := sites(t, 1)[0]
	a := x.dir(root, "a")
	x.move(a, a, "self")
	isLostOnes(t, x.s, a)
	isSeenAs(t, x.s, "/lost+found", "/lost+found/self~1.1")
	x.file(a, "f")
	isSeenAs(t, x.s, "/lost+found", "/lost+found/self~1.1", "/lost+found/self~1.1/f")
	for _, n := range []int{3, 4, 9} {
		y := sites(t, 1)[0]
		var l []api.ID
		for range n {
			l = append(l, y.dir(root, "d"))
		}
		for i, d := range l {
			y.move(d, l[(i+1)%n], "d")
		}
		isLostOnes(t, y.s, l[0])
		// The one that is in it is the last one, and so on.
		want := []string{"/lost+found", "/lost+found/d~1.1"}
		for range n - 1 {
			want = append(want, want[len(want)-1]+"/d")
		}
		isSeenAs(t, y.s, want...)
	}
}

// P13.1: the least number of a ring is by Seq, then by Rep.
func TestLeastOfRing(t *testing.T) {
	l := sites(t, 3)
	a := l[2].dir(root, "a")
	l[0].file(root, "x")
	b := l[0].dir(root, "b")
	c := l[1].dir(root, "c")
	meet(l...)
	l[0].move(b, a, "b")
	l[1].move(a, c, "a")
	l[2].move(c, b, "c")
	meet(l...)
	// a is 3.1, b is 1.2, c is 2.1.
	isLostOnes(t, l[0].s, c)
	isSeenAs(t, l[0].s, "/x", "/lost+found", "/lost+found/c~2.1", "/lost+found/c~2.1/a", "/lost+found/c~2.1/a/b")
}

// P13.1: rings that have nothing to do with each other, each with its least one.
func TestRingsApart(t *testing.T) {
	x := sites(t, 1)[0]
	var l []api.ID
	for _, name := range []string{"a", "b", "c", "d", "e"} {
		l = append(l, x.dir(root, name))
	}
	x.move(l[0], l[3], "a")
	x.move(l[3], l[0], "d")
	x.move(l[1], l[4], "b")
	x.move(l[4], l[2], "e")
	x.move(l[2], l[1], "c")
	isLostOnes(t, x.s, l[0], l[1])
	isSeenAs(t, x.s, "/lost+found", "/lost+found/a~1.1", "/lost+found/a~1.1/d", "/lost+found/b~1.2", "/lost+found/b~1.2/c", "/lost+found/b~1.2/c/e")
}

// P13.1: what is in a ring's directories, and what hangs on them, however less its number is, isn't lost with them, but below them.
func TestWhatHangsOnRing(t *testing.T) {
	x := sites(t, 1)[0]
	low := x.dir(root, "low")
	a := x.dir(root, "a")
	b := x.dir(root, "b")
	x.move(a, b, "a")
	x.move(b, a, "b")
	x.file(a, "f")
	x.file(b, "g")
	x.dir(b, "dir")
	x.move(low, b, "low")
	x.file(low, "h")
	isLostOnes(t, x.s, a)
	isSeenAs(t, x.s, "/lost+found", "/lost+found/a~1.2", "/lost+found/a~1.2/b", "/lost+found/a~1.2/b/dir",
		"/lost+found/a~1.2/b/g", "/lost+found/a~1.2/b/low", "/lost+found/a~1.2/b/low/h", "/lost+found/a~1.2/f")
	// In the other one of them it is the same.
	x.move(low, a, "low")
	isLostOnes(t, x.s, a)
}

// P13.1: only homes make a ring; another entry of a directory, even one that is alive, makes none.
func TestRingByHomesAlone(t *testing.T) {
	x := sites(t, 1)[0]
	a := x.dir(root, "a")
	b := x.dir(a, "b")
	x.link(a, b, "a")
	// a has entries 1.1 in the root and 1.3 in b, which is its home.
	isLostOnes(t, x.s, a)
	x.link(a, root, "A")
	isLostOnes(t, x.s)
	isSeenAs(t, x.s, "/A", "/A/b")
}

// P13.1: all kinds of what is lost, in the order of their numbers, whatever their names are.
func TestLostInOrder(t *testing.T) {
	l := sites(t, 3)
	one, two, three := l[0], l[1], l[2]
	w := one.file(root, "w")
	z := two.dir(root, "z")
	r := three.dir(root, "r")
	b := one.dir(root, "b")
	q := two.dir(root, "q")
	a := three.file(root, "a")
	meet(l...)
	one.drop(w)
	one.drop(z)
	one.drop(a)
	one.move(r, q, "r")
	one.move(b, b, "b")
	two.write(w, "x")
	two.move(q, r, "q")
	three.file(z, "in")
	three.write(a, "y")
	for _, x := range []*site{one, two, three} {
		meet(one, two, three)
		isLostOnes(t, x.s, w, z, r, b, a)
		isSeenAs(t, x.s, "/lost+found", "/lost+found/w~1.1", "/lost+found/z~2.1", "/lost+found/z~2.1/in",
			"/lost+found/r~3.1", "/lost+found/r~3.1/q", "/lost+found/b~1.2", "/lost+found/a~3.2")
	}
}

// P13.1: each directory of four in each of four, in the root, or nowhere: all of it is as the chapter says.
func TestAllWaysToBeInEachOther(t *testing.T) {
	const n, ways = 4, 6
	rings := map[int]int{} // by how many are lost
	for number := range ways * ways * ways * ways {
		x := sites(t, 1)[0]
		var l []api.ID
		for range n {
			l = append(l, x.dir(root, "d"))
		}
		for i, rest := 0, number; i < n; i, rest = i+1, rest/ways {
			switch where := rest % ways; where {
			case n:
			case n + 1:
				x.drop(l[i])
			default:
				x.move(l[i], l[where], "m")
			}
		}
		x.file(l[number%n], "f")
		isTree(t, x.s)
		rings[len(view.Lost(x.s))]++
	}
	// Each of the four can be lost; the file, which has a place, can't.
	if min(rings[0], rings[1], rings[2], rings[3], rings[4]) == 0 || len(rings) != 5 {
		t.Errorf("how many are lost how often: %v", rings)
	}
}
