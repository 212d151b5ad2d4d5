package view_test

import (
	"testing"

	"wardship/api"
	"wardship/view"
)

// isAt checks the node at a path, by Find and by Walk.
func isAt(t *testing.T, s api.State, want api.Node) {
	t.Helper()
	n, err := view.Find(s, want.Path)
	isNode(t, "Find", n, err, want)
	for n := range view.Walk(s) {
		if n.Path == want.Path {
			isNode(t, "Walk", n, api.OK, want)
			return
		}
	}
	t.Fatalf("Walk doesn't come by %s", want.Path)
}

// P13.1, P13.2: each field of a file without versions, with one, with one that took another's place, with several.
func TestFileNodes(t *testing.T) {
	l := sites(t, 2)
	one, two := l[0], l[1]
	d := one.dir(root, "d")
	f := one.file(d, "f")
	isAt(t, one.s, api.Node{Path: "/d/f", Obj: f, Entry: f})
	first := one.write(f, "one")
	isAt(t, one.s, api.Node{Path: "/d/f", Obj: f, Entry: f, Heads: ids(first), Data: "one"})
	second := one.write(f, "two")
	isAt(t, one.s, api.Node{Path: "/d/f", Obj: f, Entry: f, Heads: ids(second), Data: "two"})
	meet(l...)
	right := two.write(f, "RIGHT")
	left := one.write(f, "left")
	meet(l...)
	isAt(t, one.s, api.Node{Path: "/d/f", Obj: f, Entry: f, Heads: ids(right, left)})
	both := two.fix(f, "")
	isAt(t, two.s, api.Node{Path: "/d/f", Obj: f, Entry: f, Heads: ids(both)})
	moved := two.move(f, root, "g")
	isAt(t, two.s, api.Node{Path: "/g", Obj: f, Entry: moved, Heads: ids(both)})
	again := two.write(f, "\x00\xff")
	isAt(t, two.s, api.Node{Path: "/g", Obj: f, Entry: moved, Heads: ids(again), Data: "\x00\xff"})
	cut := two.does(api.Event{Kind: api.KindCut, Obj: f, Base: ids(again), Off: 1})
	isAt(t, two.s, api.Node{Path: "/g", Obj: f, Entry: moved, Heads: ids(cut), Data: "\x00"})
}

// P13.1, P13.2: each field of the root, of a directory, of lost+found.
func TestDirectoryNodes(t *testing.T) {
	s := grove(t)
	n, err := view.Find(s, "/")
	isNode(t, "the root", n, err, api.Node{Path: "/", Dir: true})
	n, err = view.Find(api.State{}, "/")
	isNode(t, "the root of nothing", n, err, api.Node{Path: "/", Dir: true})
	isAt(t, s, api.Node{Path: "/d", Obj: id(1, 1), Entry: id(1, 1), Dir: true})
	isAt(t, s, api.Node{Path: "/d/e", Obj: id(1, 2), Entry: id(1, 2), Dir: true})
	isAt(t, s, api.Node{Path: "/lost+found", Dir: true})
}

// P13.1, P13.2: what is in lost+found has no entry there, even if it has one that is alive; what is below it has its own.
func TestLostNodes(t *testing.T) {
	s := grove(t)
	isAt(t, s, api.Node{Path: "/lost+found/a~1.5", Obj: id(1, 5), Heads: ids(id(2, 3)), Data: "two"})
	isAt(t, s, api.Node{Path: "/lost+found/p~1.6", Obj: id(1, 6), Dir: true})
	isAt(t, s, api.Node{Path: "/lost+found/p~1.6/q", Obj: id(1, 7), Entry: id(2, 1), Dir: true})
	isAt(t, s, api.Node{Path: "/lost+found/p~1.6/inner", Obj: id(2, 2), Entry: id(2, 2)})
}

// P13.1: a file at several places has its versions at each.
func TestNodesOfOneFile(t *testing.T) {
	x := sites(t, 1)[0]
	f := x.file(root, "f")
	one := x.write(f, "x")
	g := x.link(f, root, "g")
	isAt(t, x.s, api.Node{Path: "/f", Obj: f, Entry: f, Heads: ids(one), Data: "x"})
	isAt(t, x.s, api.Node{Path: "/g", Obj: f, Entry: g, Heads: ids(one), Data: "x"})
}
