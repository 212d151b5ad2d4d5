package choose_test

import (
	"slices"
	"strings"
	"testing"
	"unsafe"

	"wardship/api"
	"wardship/choose"
)

// lists are some lists of all kinds.
func lists() [][]string {
	return [][]string{
		nil, {"/"}, {"/a"}, {"/b", "/a/c", "/a"}, {"/a", "/a"}, {"/a/b", "x", "/a"}, first(8), first(9), noPaths(), {longest(), "/abcdefghijk"},
		append(many(20), "/"), slices.Repeat([]string{"/c/d"}, 30),
	}
}

// cloned is texts in memory of their own.
func cloned(l []string) []string {
	own := make([]string, len(l))
	for i, s := range l {
		own[i] = strings.Clone(s)
	}
	return own
}

// sharesMemory tells whether two texts lie in one memory.
func sharesMemory(a, b string) bool {
	if a == "" || b == "" {
		return false
	}
	from, other := uintptr(unsafe.Pointer(unsafe.StringData(a))), uintptr(unsafe.Pointer(unsafe.StringData(b)))
	return from < other+uintptr(len(b)) && other < from+uintptr(len(a))
}

// share tells whether a text of one list lies in the memory of one of another list.
func share(a, b []string) bool {
	return slices.ContainsFunc(a, func(s string) bool {
		return slices.ContainsFunc(b, func(other string) bool { return sharesMemory(s, other) })
	})
}

// spoil changes all texts that a slice can reach.
func spoil(l []string) {
	l = l[:cap(l)]
	for i := range l {
		l[i] = "/spoilt" + l[i]
	}
}

// Rule 4: a list that is handed in stays as it was, and what lies behind its end is neither read nor written.
func TestListsStay(t *testing.T) {
	for _, l := range lists() {
		for _, behind := range [][]string{{"x", "", "//"}, {"/", "/a", "/0"}} {
			whole := append(cloned(l), behind...)
			before := cloned(whole)
			given := whole[:len(l)]
			asExpected(t, given, []string{"/", "/a", "/c/d/e", "x"})
			isPassed(t, given, slices.Values(nodesAt("/a", "/q")), pathsOf(slices.Collect(choose.Only(cloned(l), slices.Values(nodesAt("/a", "/q")))))...)
			if !slices.Equal(whole, before) {
				t.Errorf("%q became %q", before, whole)
			}
		}
	}
}

// Rule 4: what is cleaned shares nothing with the list that was handed in, nor with another answer.
func TestCleanedShareNothing(t *testing.T) {
	for _, list := range lists() {
		l := cloned(list)
		first, err := choose.Clean(l)
		second, _ := choose.Clean(l)
		want := cloned(second)
		if share(first, l) || share(first, second) {
			t.Errorf("%q shares memory with %q, or another answer", first, l)
		}
		spoil(first)
		if !slices.Equal(l, list) || !slices.Equal(second, want) {
			t.Errorf("a change of what was cleaned shows in %q, %q", l, second)
		}
		third, again := choose.Clean(l)
		if !slices.Equal(third, want) || again != err {
			t.Errorf("Clean(%q) = %q, %d", l, third, again)
		}
		spoil(l)
		if !slices.Equal(third, want) {
			t.Errorf("a change of what was handed in shows in %q", third)
		}
	}
}

// Rule 4: the iterator keeps nothing of the list, whether that is changed ahead of its use or in between.
func TestOnlyKeepsNoList(t *testing.T) {
	l := cloned([]string{"/a", "/c"})
	only := choose.Only(l, slices.Values(nodesAt("/a", "/b", "/c", "/a/b")))
	l[0], l[1] = "/b", "/b"
	at := 0
	for n := range only {
		if n.Path != []string{"/a", "/c", "/a/b"}[at] {
			t.Errorf("%+v", n)
		}
		at++
		l[0], l[1] = "/d", "x"
	}
	isStory(t, pathsOf(slices.Collect(only)), "/a", "/c", "/a/b")
}

// memoryOf are all paths and bytes of nodes.
func memoryOf(l []api.Node) []string {
	var texts []string
	for _, n := range l {
		texts = append(texts, n.Path, n.Data)
	}
	return texts
}

// spoilNodes changes all numbers that nodes can reach.
func spoilNodes(l []api.Node) {
	for _, n := range l {
		heads := n.Heads[:cap(n.Heads)]
		for i := range heads {
			heads[i] = api.ID{Rep: 8, Seq: 8}
		}
	}
}

// Rule 4: nodes that are handed on share nothing with those that were handed in, nor with those of another time.
func TestNodesShareNothing(t *testing.T) {
	paths := []string{"/a", "/b", "/a/b", "/a/b/c"}
	nodes, want := nodesAt(cloned(paths)...), nodesAt(paths...)
	only := choose.Only([]string{"/a", "/b"}, slices.Values(nodes))
	first, second := slices.Collect(only), slices.Collect(only)
	if share(memoryOf(first), memoryOf(nodes)) || share(memoryOf(first), memoryOf(second)) {
		t.Error("nodes share memory")
	}
	spoilNodes(first)
	isNodes(t, "what was handed in", nodes, want)
	isNodes(t, "the nodes of the second time", second, want)
	third := slices.Collect(only)
	isNodes(t, "the nodes of the third time", third, want)
	spoilNodes(nodes)
	isNodes(t, "behind a change of what was handed in", third, want)
}

// Rule 4: what lies behind the end of a node's numbers is neither read nor written.
func TestHeadsEnd(t *testing.T) {
	heads := []api.ID{{Rep: 1, Seq: 1}, {Rep: 2, Seq: 2}, {Rep: 3, Seq: 3}}
	all := slices.Values([]api.Node{{Path: "/a", Heads: heads[:1]}, {Path: "/b", Heads: heads[:0]}})
	for n := range choose.Only(nil, all) {
		n.Heads = append(n.Heads, api.ID{Rep: 8, Seq: 8})
		spoilNodes([]api.Node{n})
	}
	if !slices.Equal(heads, []api.ID{{Rep: 1, Seq: 1}, {Rep: 2, Seq: 2}, {Rep: 3, Seq: 3}}) {
		t.Errorf("%v", heads)
	}
}

// P2: what is asked in between changes no answer.
func TestNothingIsKept(t *testing.T) {
	texts := []string{"/", "/a", "/c/d/e", "x"}
	for _, l := range lists() {
		for _, other := range lists() {
			asExpected(t, l, texts)
			asExpected(t, other, texts)
		}
		asExpected(t, l, texts)
	}
}

// noise is n bytes that a plain rule makes of a seed; those that paths are made of come often.
func noise(d *dice, n int) string {
	const often = "////aab.~1-"
	b := make([]byte, n)
	for i := range b {
		if d.roll(20) == 0 {
			b[i] = byte(d.roll(256))
		} else {
			b[i] = often[d.roll(len(often))]
		}
	}
	return string(b)
}

// P1, P2: no call panics, whatever texts it is given.
func TestNoise(t *testing.T) {
	for seed := range dice(20000) {
		d := seed * 13
		var texts []string
		for range 1 + d.roll(6) {
			texts = append(texts, "/"+noise(&d, d.roll(6)), noise(&d, d.roll(20)))
		}
		asExpected(t, d.among(texts, d.roll(10)), texts)
	}
}

// P1: long texts, and long lists, end soon.
func TestLongTextsAndLists(t *testing.T) {
	for _, c := range []string{"a", "/", "/a", "~", "\x00", "\xff"} {
		s := strings.Repeat(c, 1<<20)
		for _, text := range []string{s, "/" + s, "/a/" + s} {
			checks(t, api.ErrPath, text)
			refuses(t, api.ErrPath, "/a", text)
			tells(t, []string{"/a", text}, text, false, false)
			tells(t, []string{"/a", text}, "/a", true, true)
		}
	}
	l := slices.Repeat([]string{"/b", "/a/c", "/a"}, 1<<17)
	cleans(t, l, "/a", "/b")
	checks(t, api.ErrLong, l...)
	tells(t, l, "/c", false, false)
	tells(t, l, "/a/d", true, true)
	refuses(t, api.ErrLong, many(1<<18)...)
	refuses(t, api.ErrPath, append(many(1<<18), "x")...)
}
