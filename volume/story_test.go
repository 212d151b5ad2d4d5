package volume_test

import (
	"testing"

	"wardship/api"
	"wardship/volume"
)

// P15.1, P15.2: the chapter's examples.
func TestExamples(t *testing.T) {
	x := sites(t, 1)[0]
	x.create("/a")
	x.asks(api.Op{Verb: "write", Path: "/a", N: 0, Data: "hi"})
	reads(t, x.s, "/a", "hi")
	x.mkdir("/d")
	x.rename("/a", "/d/b")
	isList(t, x.s, nil, "/d", "b")
	x.refuses(api.ErrBusy, api.Op{Verb: "remove", Path: "/d"})
}

// P15.1, P15.2: what is created and written at one replica is read at another one, once that heard of it.
func TestHeard(t *testing.T) {
	l := sites(t, 2)
	one, two := l[0], l[1]
	comesTo(t, one.s, 1, nil, api.Op{Verb: "create", Path: "/a"}, api.Event{ID: id(1, 1), Kind: api.KindFile, Name: "a"})
	a := one.create("/a")
	comesTo(t, one.s, 1, nil, api.Op{Verb: "write", Path: "/a", Data: "hi"}, api.Event{ID: id(1, 2), Dep: api.Vec{1}, Kind: api.KindWrite, Obj: a, Data: "hi"})
	one.write("/a", "hi")
	isList(t, two.s, nil, "/")
	two.hears(one)
	reads(t, two.s, "/a", "hi")
}

// P15.1, P15.2: two versions that know nothing of each other are made one.
func TestTwoVersions(t *testing.T) {
	l := sites(t, 2)
	one, two := l[0], l[1]
	one.create("/a")
	one.write("/a", "hi")
	meet(l...)
	one.write("/a", "one")
	two.write("/a", "two")
	two.hears(one)
	stats(t, two.s, nil, "/a", api.OK, api.ErrConflict, api.OK)
	got, err := volume.Versions(two.s, nil, "/a")
	isTexts(t, "/a", got, err, "two", "one")
	two.asks(api.Op{Verb: "fix", Path: "/a", Data: "both"})
	reads(t, two.s, "/a", "both")
	one.hears(two)
	reads(t, one.s, "/a", "both")
}

// P15.2: two files of one name are told apart, and are both there.
func TestTwoOfOneName(t *testing.T) {
	l := sites(t, 2)
	one, two := l[0], l[1]
	one.create("/b")
	two.create("/b")
	one.write("/b", "one")
	two.write("/b", "two")
	meet(l...)
	isList(t, one.s, nil, "/", "b", "b~2.1")
	reads(t, one.s, "/b", "one")
	reads(t, one.s, "/b~2.1", "two")
	one.rename("/b~2.1", "/c")
	one.remove("/b")
	isList(t, one.s, nil, "/", "c")
}

// P15.1, P15.2: a file that was removed while it was written is in lost+found, from where it is moved back.
func TestLostAndFound(t *testing.T) {
	l := sites(t, 2)
	one, two := l[0], l[1]
	one.create("/a")
	meet(l...)
	one.remove("/a")
	two.write("/a", "x")
	isList(t, one.s, nil, "/")
	meet(l...)
	isList(t, one.s, nil, "/", "lost+found")
	isList(t, one.s, nil, "/lost+found", "a~1.1")
	reads(t, one.s, "/lost+found/a~1.1", "x")
	one.write("/lost+found/a~1.1", "y")
	one.rename("/lost+found/a~1.1", "/a")
	isList(t, one.s, nil, "/", "a")
	reads(t, one.s, "/a", "y")
	isNoList(t, api.ErrNone, one.s, nil, "/lost+found")
}

// P15.1, P15.2: directories that were moved into each other are below lost+found, from where they are moved back.
func TestMovedIntoEachOther(t *testing.T) {
	l := sites(t, 2)
	one, two := l[0], l[1]
	one.mkdir("/d")
	one.mkdir("/e")
	meet(l...)
	one.rename("/d", "/e/d")
	two.rename("/e", "/d/e")
	meet(l...)
	isList(t, two.s, nil, "/", "lost+found")
	isList(t, two.s, nil, "/lost+found/d~1.1", "e")
	two.refuses(api.ErrSelf, api.Op{Verb: "rename", Path: "/lost+found/d~1.1", To: "/lost+found/d~1.1/e/d"})
	two.rename("/lost+found/d~1.1/e", "/e")
	two.isSeenAs("/e", "/e/d")
}
