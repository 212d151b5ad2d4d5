package choose_test

import (
	"iter"
	"slices"
	"testing"

	"wardship/api"
	"wardship/choose"
)

// some is nodes of which some are chosen, some lead there, and some do neither; they are in no order.
func some() []api.Node {
	return nodesAt("/z", "/a", "/a/c", "/a/b", "/a/b/y", "/b", "/", "/a/b/x", "/a", "x", "", "/d/e", "/d", "/lost+found", "/ab", "/a/bc")
}

// P14.2: nodes that are chosen, or lead there, come in the order in which they are gone over, as often as they come.
func TestOnly(t *testing.T) {
	all := slices.Values(some())
	isPassed(t, []string{"/a/b"}, all, "/a", "/a/b", "/a/b/y", "/", "/a/b/x", "/a")
	isPassed(t, []string{"/a"}, all, "/a", "/a/c", "/a/b", "/a/b/y", "/", "/a/b/x", "/a", "/a/bc")
	isPassed(t, []string{"/d/e", "/z"}, all, "/z", "/", "/d/e", "/d")
	isPassed(t, []string{"/lost+found/q~1.1"}, all, "/", "/lost+found")
	isPassed(t, []string{"/q"}, all, "/")
	isPassed(t, []string{"x"}, all)
	isPassed(t, []string{"x", "", "/d/e"}, all, "/", "/d/e", "/d")
	isPassed(t, []string{"/"}, all, "/z", "/a", "/a/c", "/a/b", "/a/b/y", "/b", "/", "/a/b/x", "/a", "/d/e", "/d", "/lost+found", "/ab", "/a/bc")
}

// P14.2: lists that are no choices filter, too.
func TestOnlyByNoChoice(t *testing.T) {
	all := slices.Values(some())
	isPassed(t, []string{"/z", "/d", "/d"}, all, "/z", "/", "/d/e", "/d")
	isPassed(t, []string{"/a/b", "/a"}, all, "/a", "/a/c", "/a/b", "/a/b/y", "/", "/a/b/x", "/a", "/a/bc")
	isPassed(t, append(many(20), "/b"), all, "/b", "/")
}

// P14.2: without a list all nodes come, also those whose paths are none.
func TestOnlyWithoutList(t *testing.T) {
	for _, l := range [][]string{nil, {}} {
		isPassed(t, l, slices.Values(some()), pathsOf(some())...)
		isPassed(t, l, slices.Values(nodesAt(noPaths()...)), noPaths()...)
	}
}

// P14.2: of no nodes none come.
func TestOnlyOfNothing(t *testing.T) {
	for _, l := range [][]string{nil, {"/"}, {"/a"}, {"x"}} {
		isPassed(t, l, slices.Values([]api.Node{}))
	}
	isPassed(t, []string{"/c"}, slices.Values(nodesAt("/a", "/b")))
}

// P14.2: nodes are handed on as they are.
func TestOnlyHandsOnAll(t *testing.T) {
	want := []api.Node{
		{},
		{Path: "/", Dir: true},
		{Path: "/f", Obj: api.ID{Rep: 1, Seq: 2}, Entry: api.ID{Rep: 3, Seq: 4}, Heads: []api.ID{{Rep: 5, Seq: 6}}, Data: "bytes\x00\xff"},
		{Path: "/f", Heads: []api.ID{{Rep: 1, Seq: 1}, {Rep: 2, Seq: 1}}},
		{Path: "/d", Obj: api.ID{Rep: 8, Seq: 1 << 20}, Entry: api.ID{Rep: 8, Seq: 1<<20 + 1}, Dir: true},
	}
	got := slices.Collect(choose.Only(nil, slices.Values(want)))
	isNodes(t, "without a list", got, want)
	got = slices.Collect(choose.Only([]string{"/d", "/f"}, slices.Values(want)))
	isNodes(t, "with a list", got, want[1:])
}

// isNodes holds nodes against others.
func isNodes(t *testing.T, what string, got, want []api.Node) {
	t.Helper()
	same := slices.EqualFunc(got, want, func(a, b api.Node) bool {
		return a.Path == b.Path && a.Obj == b.Obj && a.Entry == b.Entry && a.Dir == b.Dir && slices.Equal(a.Heads, b.Heads) && a.Data == b.Data
	})
	if !same {
		t.Errorf("%s: %+v, not %+v", what, got, want)
	}
}

// told is an iterator over nodes that tells what happens to it.
func told(nodes []api.Node, tell func(string)) iter.Seq[api.Node] {
	return func(yield func(api.Node) bool) {
		tell("begin")
		for _, n := range nodes {
			tell("give " + n.Path)
			if !yield(n) {
				tell("stopped")
				return
			}
		}
		tell("end")
	}
}

// isStory checks what has been told.
func isStory(t *testing.T, got []string, want ...string) {
	t.Helper()
	if !slices.Equal(got, want) {
		t.Errorf("%q, not %q", got, want)
	}
}

// P14.2: each node is handed on as soon as it comes; nothing is gone over ahead of that.
func TestOnlyAtOnce(t *testing.T) {
	var story []string
	tell := func(what string) { story = append(story, what) }
	only := choose.Only([]string{"/a/b"}, told(nodesAt("/z", "/a", "/a/b", "/c", "/a/b/c", "/y"), tell))
	isStory(t, story)
	for n := range only {
		tell("take " + n.Path)
	}
	isStory(t, story, "begin", "give /z", "give /a", "take /a", "give /a/b", "take /a/b", "give /c", "give /a/b/c", "take /a/b/c", "give /y", "end")
}

// P14.2, rule 7: who stops at the first node, or later, is given no more, and no more is gone over.
func TestOnlyStops(t *testing.T) {
	whole := []string{"begin", "give /z", "give /a", "take /a", "give /a/b", "take /a/b", "give /c", "give /a/b/c", "take /a/b/c"}
	for taken, until := range map[int]int{1: 4, 2: 6, 3: 9} {
		var story []string
		tell := func(what string) { story = append(story, what) }
		only := choose.Only([]string{"/a/b"}, told(nodesAt("/z", "/a", "/a/b", "/c", "/a/b/c", "/y"), tell))
		for range 2 {
			story = nil
			n := 0
			for x := range only {
				tell("take " + x.Path)
				n++
				if n == taken {
					break
				}
			}
			isStory(t, story, append(slices.Clone(whole[:until]), "stopped")...)
		}
	}
}

// P14.2: what doesn't end for very long is gone over until its consumer stops.
func TestOnlyOfVeryMuch(t *testing.T) {
	given := 0
	long := func(yield func(api.Node) bool) {
		// If it isn't stopped, the test fails in the end.
		for given < 1<<20 {
			given++
			if !yield(api.Node{Path: "/" + []string{"a", "b", "c"}[given%3], Obj: api.ID{Seq: uint32(given)}}) {
				return
			}
		}
	}
	only := choose.Only([]string{"/c"}, long)
	if given != 0 {
		t.Errorf("%d nodes were given at once", given)
	}
	taken := 0
	for n := range only {
		taken++
		if n.Path != "/c" || n.Obj.Seq != uint32(given) {
			t.Fatalf("%+v is the node %d", n, given)
		}
		if taken == 1000 {
			break
		}
	}
	if given != 2999 {
		t.Errorf("%d nodes were given", given)
	}
}

// P14.2, rule 7: who goes over it again begins anew, also while someone goes over it.
func TestOnlyAgain(t *testing.T) {
	only := choose.Only([]string{"/a"}, slices.Values(nodesAt("/b", "/a", "/a/c", "/c")))
	want := []string{"/a", "/a/c"}
	for range 3 {
		isStory(t, pathsOf(slices.Collect(only)), want...)
	}
	at := 0
	for n := range only {
		isStory(t, []string{n.Path}, want[at])
		at++
		isStory(t, pathsOf(slices.Collect(only)), want...)
	}
	if at != len(want) {
		t.Errorf("%d nodes", at)
	}
}

// P14.2: what yields other nodes the next time is gone over anew.
func TestOnlyOfWhatChanges(t *testing.T) {
	turn := 0
	all := func(yield func(api.Node) bool) {
		turn++
		for _, n := range nodesAt("/a", "/b", "/c")[:turn%4] {
			if !yield(n) {
				return
			}
		}
	}
	only := choose.Only([]string{"/a", "/c"}, all)
	isStory(t, pathsOf(slices.Collect(only)), "/a")
	isStory(t, pathsOf(slices.Collect(only)), "/a")
	isStory(t, pathsOf(slices.Collect(only)), "/a", "/c")
	isStory(t, pathsOf(slices.Collect(only)))
}

// P14.2: what is filtered may be filtered again.
func TestOnlyOfOnly(t *testing.T) {
	all := slices.Values(some())
	isPassed(t, []string{"/a/b"}, choose.Only([]string{"/a/b/x", "/z"}, all), "/a", "/a/b", "/", "/a/b/x", "/a")
	isPassed(t, []string{"/z"}, choose.Only([]string{"/a"}, all), "/")
}

// P1, rule 7: nothing to go over, an iterator that is nil, is nothing, and Only of it is there all the same.
func TestOnlyOfNil(t *testing.T) {
	for _, l := range [][]string{nil, {"/"}, {"/a"}, {"x"}} {
		only := choose.Only(l, nil)
		if only == nil {
			t.Fatal("the iterator is nil")
		}
		for range 2 {
			isPassed(t, l, nil)
			isStory(t, pathsOf(slices.Collect(only)))
		}
	}
}

// P1, rule 7: who has stopped is given nothing any more, also by what goes on when it is to stop, or yields when it has ended.
func TestOnlyOfWhatGoesOn(t *testing.T) {
	given := 0
	var later func(api.Node) bool
	heedless := func(yield func(api.Node) bool) {
		later = yield
		for _, n := range nodesAt("/a", "/b", "/a/b", "/a") {
			given++
			yield(n)
		}
	}
	for stop := 1; stop <= 4; stop++ {
		given = 0
		var got []string
		only := choose.Only([]string{"/a"}, heedless)
		for n := range only {
			got = append(got, n.Path)
			if len(got) == stop {
				break
			}
		}
		isStory(t, got, []string{"/a", "/a/b", "/a"}[:min(stop, 3)]...)
		if given != 4 {
			t.Errorf("%d nodes were given", given)
		}
		if later(api.Node{Path: "/a"}) {
			t.Error("what has ended asks for more")
		}
		isStory(t, got, []string{"/a", "/a/b", "/a"}[:min(stop, 3)]...)
	}
}
