package volume_test

import (
	"slices"
	"testing"

	"wardship/api"
	"wardship/path"
	"wardship/state"
	"wardship/version"
)

// isDone checks that the event of an operation can be applied, and that its effect is displayed then (P15.3).
func isDone(t *testing.T, s api.State, op api.Op, e api.Event) {
	t.Helper()
	after, err := state.Apply(s, e)
	if err != api.OK {
		t.Fatalf("%+v: Apply of %+v: %d", op, e, err)
	}
	switch e.Kind {
	case api.KindFile, api.KindDir:
		isMade(t, s, after, op, e)
	case api.KindWrite, api.KindCut, api.KindFix:
		isChanged(t, s, after, op, e)
	case api.KindDrop:
		isRemoved(t, s, after, op, e)
	case api.KindMove:
		isMoved(t, s, after, op, e)
	case api.KindSeat:
		s.Wards[e.ID.Rep-1], s.Known[e.ID.Rep-1] = op.N, e.ID.Seq
		isState(t, op, after, s)
	case api.KindRetire:
		s.Retired[e.ID.Rep-1], s.Known[e.ID.Rep-1] = true, e.ID.Seq
		isState(t, op, after, s)
	}
}

// isState checks what a state became by an operation.
func isState(t *testing.T, op api.Op, got, want api.State) {
	t.Helper()
	if !state.Same(got, want) {
		t.Fatalf("%+v came to\n%+v, not\n%+v", op, got, want)
	}
}

// isMade checks that what was created is displayed at its path, without a version, beside all else.
func isMade(t *testing.T, s, after api.State, op api.Op, e api.Event) {
	t.Helper()
	n, err := expectSeen(after, op.Path)
	want := api.Node{Path: op.Path, Obj: e.ID, Entry: e.ID, Dir: op.Verb == "mkdir"}
	if err != api.OK || !sameNode(n, want) {
		t.Fatalf("%+v: %+v, %d, not %+v", op, n, err, want)
	}
	others := slices.DeleteFunc(walked(after), func(n api.Node) bool { return n.Obj == e.ID })
	isNodes(t, "all else", others, walked(s))
}

// isChanged checks that a file is displayed with its new version, at the paths at which it was, beside all else.
func isChanged(t *testing.T, s, after api.State, op api.Op, e api.Event) {
	t.Helper()
	was, _ := expectSeen(s, op.Path)
	heads := slices.DeleteFunc(slices.Clone(was.Heads), func(head api.ID) bool { return slices.Contains(e.Base, head) })
	heads = append(heads, e.ID)
	var data string
	switch {
	case len(heads) > 1:
	case op.Verb == "write":
		data, _ = version.Patch(was.Data, op.N, op.Data)
	case op.Verb == "cut":
		data, _ = version.Cut(was.Data, op.N)
	default:
		data = op.Data
	}
	want := walked(s)
	for i := range want {
		if want[i].Obj == was.Obj {
			want[i].Heads, want[i].Data = heads, data
		}
	}
	got := walked(after)
	for _, n := range got {
		slices.SortFunc(n.Heads, func(a, b api.ID) int { return slices.Index(heads, a) - slices.Index(heads, b) })
	}
	isNodes(t, "what was changed", got, want)
}

// objectsOf are the numbers of all objects among nodes.
func objectsOf(l []api.Node) map[api.ID]int {
	numbers := map[api.ID]int{}
	for _, n := range l {
		numbers[n.Obj]++
	}
	delete(numbers, root)
	return numbers
}

// isKept checks that all objects are displayed that were displayed, but for one, which is displayed as often as is told.
func isKept(t *testing.T, what api.Op, s, after api.State, one api.ID, times int) {
	t.Helper()
	got := objectsOf(walked(after))
	for number, n := range objectsOf(walked(s)) {
		switch {
		case number == one:
			n = times
		case isDir(after, number) && len(livingOf(after, number)) == 0 && !holdsPlace(after, number):
			// A removed directory that was displayed for the sake of what was in it.
			n = 0
		}
		if got[number] != n {
			t.Fatalf("%+v: %v is displayed %d times, not %d", what, number, got[number], n)
		}
	}
}

// isDir tells whether an object is a directory.
func isDir(s api.State, number api.ID) bool {
	return slices.ContainsFunc(s.Objects, func(o api.Object) bool { return o.ID == number && o.Dir })
}

// holdsPlace tells whether an entry in a directory is a place of its object, told anew: it is alive and, if the object is a directory, the greatest number of those that are.
func holdsPlace(s api.State, dir api.ID) bool {
	for _, x := range s.Entries {
		if x.Dir != dir || x.By != (api.Vec{}) {
			continue
		}
		l := livingOf(s, x.Obj)
		if l[len(l)-1] == x.ID || !isDir(s, x.Obj) {
			return true
		}
	}
	return false
}

// isRemoved checks that what was removed isn't displayed any more by its entries, and all else is.
func isRemoved(t *testing.T, s, after api.State, op api.Op, e api.Event) {
	t.Helper()
	was, _ := expectSeen(s, op.Path)
	living, times := livingOf(after, e.Obj), 0
	switch {
	case !was.Dir:
		times = objectsOf(walked(s))[e.Obj] - 1
	case len(livingOf(s, e.Obj)) > api.MaxIDs:
		// An event can't name all of them.
		times = 1
	case holdsPlace(after, e.Obj):
		// It is one of directories that were contained in each other, and of which the lost one is in it.
		times = 1
	}
	for _, n := range walked(after) {
		if n.Obj == e.Obj && slices.Contains(e.Gone, n.Entry) {
			t.Fatalf("%+v: %+v is displayed still", op, n)
		}
	}
	if was.Dir && len(livingOf(s, e.Obj)) <= api.MaxIDs && len(living) > 0 {
		t.Fatalf("%+v: %v are alive", op, living)
	}
	isKept(t, op, s, after, e.Obj, times)
}

// pathOf is the path at which a directory is displayed.
func pathOf(t *testing.T, s api.State, dir api.ID) string {
	t.Helper()
	if dir == root {
		return "/"
	}
	for _, n := range walked(s) {
		if n.Obj == dir {
			return n.Path
		}
	}
	t.Fatalf("the directory %v isn't displayed", dir)
	return ""
}

// below is the path of a name in a directory.
func below(dir, name string) string {
	if dir == "/" {
		return "/" + name
	}
	return dir + "/" + name
}

// isMoved checks that what was moved is displayed by its new entry, in the new directory; at its path, too, but for the chapter's two exceptions.
func isMoved(t *testing.T, s, after api.State, op api.Op, e api.Event) {
	t.Helper()
	was, _ := expectSeen(s, op.Path)
	if was.Dir && len(livingOf(s, e.Obj)) > api.MaxIDs {
		// One that an event couldn't name may be the greatest.
		isKept(t, op, s, after, e.Obj, 1)
		return
	}
	parent := pathOf(t, after, e.Dir)
	at := below(parent, e.Name)
	lost := was.Dir && path.Within(op.To, "/lost+found")
	if at != op.To && !lost && parent == pathOf(t, s, e.Dir) {
		t.Fatalf("%+v: at %s", op, at)
	}
	var got []api.Node
	for _, n := range walked(after) {
		if n.Entry == e.ID {
			got = append(got, n)
		}
		if n.Obj == e.Obj && slices.Contains(e.Gone, n.Entry) {
			t.Fatalf("%+v: %+v is displayed still", op, n)
		}
	}
	want := was
	want.Path, want.Entry = at, e.ID
	isNodes(t, "what was moved", got, []api.Node{want})
	isKept(t, op, s, after, e.Obj, objectsOf(walked(s))[e.Obj])
}
