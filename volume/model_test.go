package volume_test

import (
	"slices"
	"strings"
	"testing"

	"wardship/api"
	"wardship/choose"
	"wardship/event"
	"wardship/path"
	"wardship/state"
	"wardship/version"
	"wardship/view"
	"wardship/volume"
)

// root is the number of the root.
var root api.ID

// id is an event's number.
func id(rep int, seq uint32) api.ID { return api.ID{Rep: rep, Seq: seq} }

// ids is a list of numbers.
func ids(l ...api.ID) []api.ID { return l }

// inside tells whether v contains x, told anew.
func inside(v api.Vec, x api.ID) bool {
	return x.Rep >= 1 && x.Rep <= api.MaxRep && x.Seq >= 1 && x.Seq <= v[x.Rep-1]
}

// livingOf are the numbers of the entries of an object that are alive, told anew.
func livingOf(s api.State, number api.ID) []api.ID {
	var l []api.ID
	for _, x := range s.Entries {
		if x.Obj == number && x.By == (api.Vec{}) {
			l = append(l, x.ID)
		}
	}
	return l
}

// versionsOf are the versions of a file.
func versionsOf(s api.State, number api.ID) []api.Version {
	for _, o := range s.Objects {
		if o.ID == number {
			return o.Versions
		}
	}
	return nil
}

// walked are all nodes that a state is seen as.
func walked(s api.State) []api.Node { return slices.Collect(view.Walk(s)) }

// above is the path of the directory of what has a path, told anew by the texts.
func above(at string) string { return at[:max(strings.LastIndex(at, "/"), 1)] }

// last is the last part of a path.
func last(at string) string { return at[strings.LastIndex(at, "/")+1:] }

// expectPath is whether a text is a path: layer 9's.
func expectPath(at string) bool {
	_, err := path.Split(at)
	return err == api.OK
}

// expectSeen is what layer 13 says of Find, told anew by what is walked over.
func expectSeen(s api.State, at string) (api.Node, api.Errno) {
	if !expectPath(at) {
		return api.Node{}, api.ErrPath
	}
	seen := map[string]api.Node{"/": {Path: "/", Dir: true}}
	for _, n := range walked(s) {
		seen[n.Path] = n
	}
	for i := range at {
		if i == 0 || at[i] != '/' {
			continue
		}
		n, there := seen[at[:i]]
		if !there {
			return api.Node{}, api.ErrNone
		}
		if !n.Dir {
			return api.Node{}, api.ErrNotDir
		}
	}
	n, there := seen[at]
	if !there {
		return api.Node{}, api.ErrNone
	}
	return n, api.OK
}

// expectIn is what is displayed in a directory, told anew by what is walked over.
func expectIn(s api.State, at string) []api.Node {
	var l []api.Node
	for _, n := range walked(s) {
		if above(n.Path) == at {
			l = append(l, n)
		}
	}
	return l
}

// expectFound is what the chapter says of finding, told anew.
func expectFound(s api.State, chosen []string, at string) (api.Node, api.Errno) {
	switch {
	case !expectPath(at):
		return api.Node{}, api.ErrPath
	case !choose.Has(chosen, at):
		return api.Node{}, api.ErrChosen
	}
	return expectSeen(s, at)
}

// expectThing is what the chapter says of finding a thing, told anew.
func expectThing(s api.State, chosen []string, at string) (api.Node, api.Errno) {
	n, err := expectFound(s, chosen, at)
	if err == api.OK && (at == "/" || at == "/lost+found") {
		return api.Node{}, api.ErrArg
	}
	return n, err
}

// expectPlace is what the chapter says of the place of a path, told anew.
func expectPlace(s api.State, chosen []string, at string) (api.ID, string, api.Errno) {
	switch {
	case !expectPath(at):
		return root, "", api.ErrPath
	case at == "/":
		return root, "", api.ErrExists
	case !event.Name(last(at)):
		return root, "", api.ErrPath
	case !choose.Has(chosen, at):
		return root, "", api.ErrChosen
	}
	dir, err := expectSeen(s, above(at))
	if err != api.OK {
		return root, "", err
	}
	_, taken := expectSeen(s, at)
	switch {
	case !dir.Dir:
		return root, "", api.ErrNotDir
	case above(at) == "/lost+found":
		return root, "", api.ErrArg
	case taken == api.OK:
		return root, "", api.ErrExists
	}
	return dir.Obj, last(at), api.OK
}

// expectGoing is what the chapter says of the entries that go with a node, told anew.
func expectGoing(s api.State, n api.Node) []api.ID {
	if n.Dir {
		l := livingOf(s, n.Obj)
		return l[:min(len(l), 8)]
	}
	if n.Entry == root {
		return nil
	}
	return ids(n.Entry)
}

// expectChange is what the chapter says of write, cut and fix, told anew.
func expectChange(s api.State, chosen []string, op api.Op) (api.Event, api.Errno) {
	n, err := expectThing(s, chosen, op.Path)
	if err != api.OK {
		return api.Event{}, err
	}
	var heads []api.Version
	for _, v := range versionsOf(s, n.Obj) {
		if v.By == (api.Vec{}) {
			heads = append(heads, v)
		}
	}
	if n.Dir {
		return api.Event{}, api.ErrIsDir
	}
	e := api.Event{Obj: n.Obj}
	for i, v := range heads {
		if i < 8 {
			e.Base = append(e.Base, v.ID)
		}
	}
	if op.Verb == "fix" {
		switch {
		case len(heads) < 2:
			return api.Event{}, api.ErrState
		case len(op.Data) > 200:
			return api.Event{}, api.ErrLong
		}
		e.Kind, e.Data = api.KindFix, op.Data
		return e, api.OK
	}
	before := ""
	switch {
	case len(heads) > 1:
		return api.Event{}, api.ErrConflict
	case len(heads) == 1:
		before = heads[0].Data
	}
	e.Off = op.N
	if op.Verb == "cut" {
		_, err = version.Cut(before, op.N)
		e.Kind = api.KindCut
	} else {
		_, err = version.Patch(before, op.N, op.Data)
		if op.Data == "" {
			err = api.ErrArg
		}
		e.Kind, e.Data = api.KindWrite, op.Data
	}
	if err != api.OK {
		return api.Event{}, err
	}
	return e, api.OK
}

// expectKind is what the chapter says of each verb, told anew.
func expectKind(s api.State, chosen []string, op api.Op) (api.Event, api.Errno) {
	var e api.Event
	var err api.Errno
	switch op.Verb {
	case "create", "mkdir":
		e.Kind = map[string]int{"create": api.KindFile, "mkdir": api.KindDir}[op.Verb]
		if len(s.Objects) >= 200 {
			return api.Event{}, api.ErrFull
		}
		e.Dir, e.Name, err = expectPlace(s, chosen, op.Path)
	case "write", "cut", "fix":
		return expectChange(s, chosen, op)
	case "remove":
		var n api.Node
		n, err = expectThing(s, chosen, op.Path)
		if err == api.OK && n.Dir && len(expectIn(s, op.Path)) > 0 {
			err = api.ErrBusy
		}
		e.Kind, e.Obj, e.Gone = api.KindDrop, n.Obj, expectGoing(s, n)
	case "rename":
		var n api.Node
		n, err = expectThing(s, chosen, op.Path)
		if err == api.OK && n.Dir && path.Within(op.To, op.Path) {
			err = api.ErrSelf
		}
		if err == api.OK {
			e.Dir, e.Name, err = expectPlace(s, chosen, op.To)
		}
		e.Kind, e.Obj, e.Gone = api.KindMove, n.Obj, expectGoing(s, n)
	case "seat":
		if op.N < 1 || op.N > 4 {
			err = api.ErrArg
		}
		e.Kind, e.Ward = api.KindSeat, op.N
	case "retire":
		e.Kind = api.KindRetire
	default:
		err = api.ErrArg
	}
	if err != api.OK {
		return api.Event{}, err
	}
	return e, api.OK
}

// expectDo is what the chapter says of Do, told anew.
func expectDo(s api.State, self int, chosen []string, op api.Op) (api.Event, api.Errno) {
	switch {
	case self < 1 || self > 8:
		return api.Event{}, api.ErrArg
	case s.Known[self-1] >= 1<<20:
		return api.Event{}, api.ErrMax
	case s.Retired[self-1]:
		return api.Event{}, api.ErrRetired
	}
	e, err := expectKind(s, chosen, op)
	if err != api.OK {
		return api.Event{}, err
	}
	e.ID, e.Dep = id(self, s.Known[self-1]+1), s.Known
	return e, api.OK
}

// sameNode tells whether two nodes are equal, field by field.
func sameNode(a, b api.Node) bool {
	return a.Path == b.Path && a.Obj == b.Obj && a.Entry == b.Entry && a.Dir == b.Dir && slices.Equal(a.Heads, b.Heads) && a.Data == b.Data
}

// isNodes checks a list of nodes.
func isNodes(t *testing.T, what string, got, want []api.Node) {
	t.Helper()
	if !slices.EqualFunc(got, want, sameNode) {
		t.Fatalf("%s:\n%+v, not\n%+v", what, got, want)
	}
}

// isTexts checks a list of texts.
func isTexts(t *testing.T, what string, got []string, err api.Errno, want ...string) {
	t.Helper()
	if !slices.Equal(got, want) || err != api.OK {
		t.Errorf("%s: %q, %d, not %q", what, got, err, want)
	}
}

// asked is what Do answers, checked against the chapter's words told anew; what was handed in stays as it was, and an event can be applied and does what was asked.
func asked(t *testing.T, s api.State, self int, chosen []string, op api.Op) (api.Event, api.Errno) {
	t.Helper()
	was := state.Clone(s)
	e, err := volume.Do(s, self, chosen, op)
	want, wantErr := expectDo(s, self, chosen, op)
	if err != wantErr || !event.Same(e, want) {
		t.Fatalf("Do(%d, %q, %+v) = %+v, %d, not %+v, %d", self, chosen, op, e, err, want, wantErr)
	}
	if !state.Same(s, was) {
		t.Fatalf("what was handed in became\n%+v, not\n%+v", s, was)
	}
	if err == api.OK {
		isDone(t, s, op, e)
	}
	return e, err
}

// refuses checks that an operation is refused.
func refuses(t *testing.T, want api.Errno, s api.State, self int, chosen []string, op api.Op) {
	t.Helper()
	if e, err := asked(t, s, self, chosen, op); err != want || !event.Same(e, api.Event{}) {
		t.Errorf("Do(%d, %q, %+v) = %+v, %d, not %d", self, chosen, op, e, err, want)
	}
}

// comesTo checks the event of an operation.
func comesTo(t *testing.T, s api.State, self int, chosen []string, op api.Op, want api.Event) {
	t.Helper()
	if e, err := asked(t, s, self, chosen, op); err != api.OK || !event.Same(e, want) {
		t.Errorf("Do(%d, %q, %+v) = %+v, %d, not %+v", self, chosen, op, e, err, want)
	}
}

// isRead holds all that can be read at a path against the chapter's words told anew.
func isRead(t *testing.T, s api.State, chosen []string, at string) {
	t.Helper()
	n, err := volume.Stat(s, chosen, at)
	want, wantErr := expectFound(s, chosen, at)
	if err != wantErr || !sameNode(n, want) {
		t.Fatalf("Stat(%q, %q) = %+v, %d, not %+v, %d", chosen, at, n, err, want, wantErr)
	}
	var texts []string
	if want.Dir {
		wantErr = api.ErrIsDir
	} else {
		for _, head := range want.Heads {
			text, _ := version.Data(versionsOf(s, want.Obj), head)
			texts = append(texts, text)
		}
	}
	l, err := volume.Versions(s, chosen, at)
	if err != wantErr || !slices.Equal(l, texts) {
		t.Fatalf("Versions(%q, %q) = %q, %d, not %q, %d", chosen, at, l, err, texts, wantErr)
	}
	text, err := volume.Read(s, chosen, at)
	whole := strings.Join(texts, "")
	if len(texts) > 1 {
		whole, wantErr = "", api.ErrConflict
	}
	if text != whole || err != wantErr {
		t.Fatalf("Read(%q, %q) = %q, %d, not %q, %d", chosen, at, text, err, whole, wantErr)
	}
	isListed(t, s, chosen, at)
}

// isListed holds what List answers against the chapter's words told anew.
func isListed(t *testing.T, s api.State, chosen []string, at string) {
	t.Helper()
	var names []string
	wantErr := api.ErrPath
	if expectPath(at) {
		wantErr = api.ErrChosen
		if choose.Leads(chosen, at) {
			var dir api.Node
			if dir, wantErr = expectSeen(s, at); wantErr == api.OK && !dir.Dir {
				wantErr = api.ErrNotDir
			}
		}
	}
	if wantErr == api.OK {
		for _, n := range expectIn(s, at) {
			if choose.Leads(chosen, n.Path) {
				names = append(names, last(n.Path))
			}
		}
	}
	l, err := volume.List(s, chosen, at)
	if err != wantErr || !slices.Equal(l, names) {
		t.Fatalf("List(%q, %q) = %q, %d, not %q, %d", chosen, at, l, err, names, wantErr)
	}
}

// isVolume holds all that can be read of a state against the chapter's words told anew.
func isVolume(t *testing.T, s api.State, chosen []string) {
	t.Helper()
	was, nodes := state.Clone(s), walked(s)
	var some []api.Node
	for _, n := range nodes {
		if choose.Leads(chosen, n.Path) {
			some = append(some, n)
		}
		isRead(t, s, chosen, n.Path)
		isRead(t, s, chosen, n.Path+"/none")
	}
	isNodes(t, "Walk", slices.Collect(volume.Walk(s, chosen)), some)
	for _, at := range []string{"/", "/lost+found", "/none", "/none/none", "", "none", "/d/", "/.."} {
		isRead(t, s, chosen, at)
	}
	if !state.Same(s, was) {
		t.Fatalf("what was handed in became\n%+v, not\n%+v", s, was)
	}
}
