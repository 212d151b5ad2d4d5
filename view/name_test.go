package view_test

import (
	"testing"

	"wardship/api"
)

// P13.1: of two and of three entries with one name in one directory the least number has the name, the others have tags, whatever they are entries of.
func TestEqualNames(t *testing.T) {
	l := sites(t, 3)
	one, two, three := l[0], l[1], l[2]
	d := one.dir(root, "d")
	meet(l...)
	one.file(d, "a")
	two.dir(d, "a")
	three.file(d, "ab")
	meet(one, two)
	// 2.1 is less than 1.2.
	isSeenAs(t, one.s, "/d", "/d/a", "/d/a~1.2")
	three.dir(d, "a")
	meet(l...)
	isSeenAs(t, one.s, "/d", "/d/a", "/d/a~1.2", "/d/a~3.2", "/d/ab")
	in := two.file(id(3, 2), "a")
	two.file(id(2, 1), "a")
	isSeenAs(t, two.s, "/d", "/d/a", "/d/a/a", "/d/a~1.2", "/d/a~3.2", "/d/a~3.2/a", "/d/ab")
	// In different directories names don't meet; once one is moved to the others, it has its tag.
	two.move(in, d, "a")
	isSeenAs(t, two.s, "/d", "/d/a", "/d/a/a", "/d/a~1.2", "/d/a~3.2", "/d/a~2.4", "/d/ab")
}

// P13.1: two entries of one file with one name in one directory are both seen.
func TestEqualNamesOfOneFile(t *testing.T) {
	l := sites(t, 2)
	f := l[0].file(root, "f")
	meet(l...)
	l[0].move(f, root, "g")
	l[1].move(f, root, "g")
	meet(l...)
	isSeenAs(t, l[0].s, "/g", "/g~1.2")
}

// P13.1: what isn't a place takes no name from others: entries that went, and those that aren't homes.
func TestNamesOfWhatIsNoPlace(t *testing.T) {
	x := sites(t, 1)[0]
	d := x.dir(root, "a")
	x.file(root, "a")
	isSeenAs(t, x.s, "/a", "/a~1.2")
	x.link(d, root, "b")
	isSeenAs(t, x.s, "/a", "/b")
	x.file(root, "a")
	isSeenAs(t, x.s, "/a", "/a~1.4", "/b")
	x.drop(id(1, 2))
	isSeenAs(t, x.s, "/a", "/b")
}

// P13.1: the place of what is lost takes no name from others, either: it isn't displayed there.
func TestNamesOfWhatIsLost(t *testing.T) {
	x := sites(t, 1)[0]
	a := x.dir(root, "a")
	b := x.dir(root, "b")
	x.move(a, b, "n")
	x.move(b, a, "n")
	x.file(b, "n")
	x.file(b, "n")
	x.file(a, "n")
	// In b, 1.3 would have the name, but is the home of a, which is lost; in a, 1.4 has it.
	isLostOnes(t, x.s, a)
	isSeenAs(t, x.s, "/lost+found", "/lost+found/n~1.1", "/lost+found/n~1.1/n", "/lost+found/n~1.1/n/n", "/lost+found/n~1.1/n/n~1.6", "/lost+found/n~1.1/n~1.7")
}

// P13.1: names in lost+found are those that objects had last, each with the tag of its object, not of an entry.
func TestNamesInLostAndFound(t *testing.T) {
	l := sites(t, 2)
	one, two := l[0], l[1]
	f := one.file(root, "f")
	d := one.dir(root, "d")
	meet(l...)
	one.move(f, root, "last")
	one.move(d, root, "far-longer.x")
	one.drop(f)
	one.drop(d)
	two.write(f, "x")
	two.file(d, "a")
	two.file(d, "a")
	meet(l...)
	isSeenAs(t, one.s, "/lost+found", "/lost+found/last~1.1", "/lost+found/far-longer.x~1.2",
		"/lost+found/far-longer.x~1.2/a", "/lost+found/far-longer.x~1.2/a~2.3")
}

// P13.1: lost+found comes behind all else in the root, if something is lost, and only there.
func TestLostAndFoundComesLast(t *testing.T) {
	l := sites(t, 2)
	one, two := l[0], l[1]
	f := one.file(root, "f")
	z := one.dir(root, "zz")
	one.file(z, "z")
	one.file(root, "a")
	meet(l...)
	isSeenAs(t, one.s, "/a", "/f", "/zz", "/zz/z")
	one.drop(f)
	two.write(f, "x")
	meet(l...)
	isSeenAs(t, one.s, "/a", "/zz", "/zz/z", "/lost+found", "/lost+found/f~1.1")
	isRefused(t, one.s, "/zz/lost+found", api.ErrNone, api.ErrNone)
	isRefused(t, one.s, "/lost+found/lost+found", api.ErrNone, api.ErrNone)
}

// P13.1: nobody makes a name that is spelled lost+found (layer 9); names that are nearly so come where names come.
func TestNamesLikeLostAndFound(t *testing.T) {
	l := sites(t, 2)
	one, two := l[0], l[1]
	f := one.file(root, "lostfound")
	one.dir(root, "lost-found")
	one.dir(root, "lost.found")
	one.file(root, "lost_found")
	meet(l...)
	isSeenAs(t, one.s, "/lost-found", "/lost.found", "/lost_found", "/lostfound")
	isRefused(t, one.s, "/lost+found", api.ErrNone, api.ErrNone)
	one.drop(f)
	two.write(f, "x")
	meet(l...)
	isSeenAs(t, one.s, "/lost-found", "/lost.found", "/lost_found", "/lost+found", "/lost+found/lostfound~1.1")
}
