package view_test

import (
	"cmp"
	"fmt"
	"slices"
	"testing"

	"wardship/api"
	"wardship/path"
	"wardship/state"
	"wardship/view"
)

// root is the number of the root.
var root api.ID

// id is an event's number.
func id(rep int, seq uint32) api.ID { return api.ID{Rep: rep, Seq: seq} }

// ids is a list of numbers.
func ids(l ...api.ID) []api.ID { return l }

// byNumber is how two event numbers are in order, told anew.
func byNumber(a, b api.ID) int {
	return cmp.Or(cmp.Compare(a.Seq, b.Seq), cmp.Compare(a.Rep, b.Rep))
}

// inside tells whether v contains x, told anew.
func inside(v api.Vec, x api.ID) bool {
	return x.Rep >= 1 && x.Rep <= api.MaxRep && x.Seq >= 1 && x.Seq <= v[x.Rep-1]
}

// objectOf is the object of a state with a number, told anew.
func objectOf(s api.State, number api.ID) api.Object {
	for _, o := range s.Objects {
		if o.ID == number {
			return o
		}
	}
	return api.Object{}
}

// isAlive tells whether nothing let an entry go, told anew.
func isAlive(x api.Entry) bool {
	for _, n := range x.By {
		if n != 0 {
			return false
		}
	}
	return true
}

// livingOf are the entries of an object that are alive, told anew.
func livingOf(s api.State, number api.ID) []api.Entry {
	var l []api.Entry
	for _, x := range s.Entries {
		if isAlive(x) && x.Obj == number {
			l = append(l, x)
		}
	}
	return l
}

// isPlace tells whether an entry is a place of its object, told anew.
func isPlace(s api.State, x api.Entry) bool {
	if !isAlive(x) {
		return false
	}
	if !objectOf(s, x.Obj).Dir {
		return true
	}
	for _, other := range livingOf(s, x.Obj) {
		if byNumber(other.ID, x.ID) > 0 {
			return false
		}
	}
	return true
}

// upFrom is the directory in which the place of a directory is; false: it has none. Told anew.
func upFrom(s api.State, dir api.ID) (api.ID, bool) {
	for _, x := range livingOf(s, dir) {
		if isPlace(s, x) {
			return x.Dir, true
		}
	}
	return api.ID{}, false
}

// ringOf are the directories that are met on the way up from one until that is met again; none, if it isn't. Told anew.
func ringOf(s api.State, dir api.ID) []api.ID {
	l := []api.ID{dir}
	for range s.Objects {
		up, ok := upFrom(s, l[len(l)-1])
		switch {
		case !ok || up == root:
			return nil
		case up == dir:
			return l
		}
		l = append(l, up)
	}
	return nil
}

// isLost tells whether an object is lost, told anew.
func isLost(s api.State, o api.Object) bool {
	if len(livingOf(s, o.ID)) > 0 {
		ring := ringOf(s, o.ID)
		return o.Dir && len(ring) > 0 && slices.MinFunc(ring, byNumber) == o.ID
	}
	if o.Dir {
		return slices.ContainsFunc(s.Entries, func(x api.Entry) bool { return x.Dir == o.ID && isPlace(s, x) })
	}
	for _, number := range headsOf(o) {
		if !inside(o.Seen, number) {
			return true
		}
	}
	return false
}

// lostOf are the objects of a state that are lost, told anew.
func lostOf(s api.State) []api.ID {
	var l []api.ID
	for _, o := range s.Objects {
		if isLost(s, o) {
			l = append(l, o.ID)
		}
	}
	slices.SortFunc(l, byNumber)
	return l
}

// headsOf are the numbers of a file's latest versions, told anew.
func headsOf(o api.Object) []api.ID {
	var l []api.ID
	for _, v := range o.Versions {
		if v.By == (api.Vec{}) {
			l = append(l, v.ID)
		}
	}
	return l
}

// nodeOf is how an object is seen at a path, told anew.
func nodeOf(s api.State, at string, number, by api.ID) api.Node {
	o := objectOf(s, number)
	n := api.Node{Path: at, Obj: number, Entry: by, Dir: o.Dir, Heads: headsOf(o)}
	for _, v := range o.Versions {
		if len(n.Heads) == 1 && v.ID == n.Heads[0] {
			n.Data = v.Data
		}
	}
	return n
}

// treeBelow is what is seen below a directory whose path, with a / behind it, is at, told anew.
func treeBelow(s api.State, dir api.ID, at string) []api.Node {
	var here []api.Entry
	for _, x := range s.Entries {
		if x.Dir == dir && isPlace(s, x) && !isLost(s, objectOf(s, x.Obj)) {
			here = append(here, x)
		}
	}
	slices.SortFunc(here, func(a, b api.Entry) int { return cmp.Or(cmp.Compare(a.Name, b.Name), byNumber(a.ID, b.ID)) })
	var l []api.Node
	names := map[string]int{}
	for _, x := range here {
		name := x.Name
		if names[name]++; names[name] > 1 {
			name = fmt.Sprintf("%s~%d.%d", x.Name, x.ID.Rep, x.ID.Seq)
		}
		l = append(l, treeAt(s, nodeOf(s, at+name, x.Obj, x.ID))...)
	}
	return l
}

// treeAt is a node and what is seen below it, told anew.
func treeAt(s api.State, n api.Node) []api.Node {
	l := []api.Node{n}
	if n.Dir {
		l = append(l, treeBelow(s, n.Obj, n.Path+"/")...)
	}
	return l
}

// treeOf is all that a state is seen as, told anew.
func treeOf(s api.State) []api.Node {
	l := treeBelow(s, root, "/")
	for i, number := range lostOf(s) {
		if i == 0 {
			l = append(l, api.Node{Path: "/lost+found", Dir: true})
		}
		at := fmt.Sprintf("/lost+found/%s~%d.%d", objectOf(s, number).Name, number.Rep, number.Seq)
		l = append(l, treeAt(s, nodeOf(s, at, number, api.ID{}))...)
	}
	return l
}

// sameNode tells whether two nodes are equal, field by field.
func sameNode(a, b api.Node) bool {
	return a.Path == b.Path && a.Obj == b.Obj && a.Entry == b.Entry && a.Dir == b.Dir && slices.Equal(a.Heads, b.Heads) && a.Data == b.Data
}

// isNode checks a node, beside no error.
func isNode(t *testing.T, what string, got api.Node, err api.Errno, want api.Node) {
	t.Helper()
	if err != api.OK || !sameNode(got, want) {
		t.Fatalf("%s: %+v, %d, not %+v", what, got, err, want)
	}
}

// isNodes checks a list of nodes.
func isNodes(t *testing.T, what string, got, want []api.Node) {
	t.Helper()
	if !slices.EqualFunc(got, want, sameNode) {
		t.Fatalf("%s:\n%+v, not\n%+v", what, got, want)
	}
}

// walked are all nodes of a walk.
func walked(s api.State) []api.Node { return slices.Collect(view.Walk(s)) }

// pathsOf are the paths of nodes.
func pathsOf(l []api.Node) []string {
	var out []string
	for _, n := range l {
		out = append(out, n.Path)
	}
	return out
}

// isSeenAs checks the paths of all that a state is seen as, in order, and all that can be asked of it.
func isSeenAs(t *testing.T, s api.State, want ...string) {
	t.Helper()
	if got := pathsOf(walked(s)); !slices.Equal(got, want) {
		t.Fatalf("%q, not %q", got, want)
	}
	isTree(t, s)
}

// isLostOnes checks which objects are lost, and all that can be asked of the state.
func isLostOnes(t *testing.T, s api.State, want ...api.ID) {
	t.Helper()
	if got := view.Lost(s); !slices.Equal(got, want) {
		t.Fatalf("lost are %v, not %v", got, want)
	}
	isTree(t, s)
}

// isTree holds all that can be asked of a state against what the chapter says, told anew, and checks that the state stays as it was.
func isTree(t *testing.T, s api.State) {
	t.Helper()
	was, all := state.Clone(s), treeOf(s)
	isNodes(t, "Walk", walked(s), all)
	if got, want := view.Lost(s), lostOf(s); !slices.Equal(got, want) {
		t.Fatalf("lost are %v, not %v", got, want)
	}
	for _, n := range append([]api.Node{{Path: "/", Dir: true}}, all...) {
		isFoundAt(t, s, n, all)
	}
	isNothingLeftOut(t, s, all)
	if !state.Same(s, was) {
		t.Fatalf("what was handed in became\n%+v, not\n%+v", s, was)
	}
}

// isFoundAt checks what Find and In answer at the path of a node, and at a path below it where nothing is.
func isFoundAt(t *testing.T, s api.State, n api.Node, all []api.Node) {
	t.Helper()
	if _, err := path.Split(n.Path); err != api.OK {
		isRefused(t, s, n.Path, api.ErrPath, api.ErrPath)
		return
	}
	got, err := view.Find(s, n.Path)
	isNode(t, "Find of "+n.Path, got, err, n)
	in, err := view.In(s, n.Path)
	wantIn, wantErr, below := rightBelow(all, n), api.OK, api.ErrNone
	if !n.Dir {
		wantErr, below = api.ErrNotDir, api.ErrNotDir
	}
	isNodes(t, "In of "+n.Path, in, wantIn)
	if err != wantErr {
		t.Fatalf("In of %s: %d, not %d", n.Path, err, wantErr)
	}
	if _, err := path.Split(n.Path + "/nothing"); n.Path != "/" && err == api.OK {
		isRefused(t, s, n.Path+"/nothing", below, below)
	}
}

// rightBelow are the nodes that are displayed in a directory, of all.
func rightBelow(all []api.Node, dir api.Node) []api.Node {
	var l []api.Node
	for _, n := range all {
		at := len(n.Path) - 1
		for n.Path[at] != '/' {
			at--
		}
		if n.Path[:max(at, 1)] == dir.Path {
			l = append(l, n)
		}
	}
	return l
}

// isRefused checks the errors of Find and In at a path.
func isRefused(t *testing.T, s api.State, at string, find, in api.Errno) {
	t.Helper()
	n, err := view.Find(s, at)
	if err != find || !sameNode(n, api.Node{}) {
		t.Fatalf("Find of %s: %+v, %d, not %d", at, n, err, find)
	}
	l, err := view.In(s, at)
	if err != in || len(l) != 0 {
		t.Fatalf("In of %s: %+v, %d, not %d", at, l, err, in)
	}
}

// isNothingLeftOut checks what follows for every state (P13.3), by its entries and versions alone.
func isNothingLeftOut(t *testing.T, s api.State, all []api.Node) {
	t.Helper()
	at, by, of := map[string]int{}, map[api.ID]int{}, map[api.ID]int{}
	for _, n := range all {
		at[n.Path]++
		by[n.Entry]++
		of[n.Obj]++
		if at[n.Path] > 1 {
			t.Fatalf("two nodes at %s", n.Path)
		}
	}
	for _, x := range s.Entries {
		o, times := objectOf(s, x.Obj), 0
		if isAlive(x) && !o.Dir {
			times = 1
		}
		if !o.Dir && by[x.ID] != times {
			t.Fatalf("the entry %v of a file is seen %d times, not %d", x.ID, by[x.ID], times)
		}
		if isAlive(x) && o.Dir && of[x.Obj] != 1 {
			t.Fatalf("the directory %v is seen %d times", x.Obj, of[x.Obj])
		}
	}
	for _, o := range s.Objects {
		for _, v := range o.Versions {
			if v.By == (api.Vec{}) && !inside(o.Seen, v.ID) && of[o.ID] == 0 {
				t.Fatalf("the version %v isn't seen any more", v.ID)
			}
		}
	}
}

// site is a replica, by what it did and heard, in its order, and what that comes to.
type site struct {
	t   *testing.T
	rep int
	s   api.State
	log []api.Event
}

// sites are so many replicas that know nothing.
func sites(t *testing.T, n int) []*site {
	var l []*site
	for rep := range n {
		l = append(l, &site{t: t, rep: rep + 1})
	}
	return l
}

// adds applies an event.
func (x *site) adds(e api.Event) {
	x.t.Helper()
	next, err := state.Apply(x.s, e)
	if err != api.OK {
		x.t.Fatalf("Apply of %+v: %d", e, err)
	}
	x.s, x.log = next, append(x.log, e)
}

// does lets a replica do something on top of all that it knows.
func (x *site) does(e api.Event) api.ID {
	x.t.Helper()
	e.ID, e.Dep = id(x.rep, x.s.Known[x.rep-1]+1), x.s.Known
	x.adds(e)
	return e.ID
}

// file makes a file.
func (x *site) file(dir api.ID, name string) api.ID {
	x.t.Helper()
	return x.does(api.Event{Kind: api.KindFile, Dir: dir, Name: name})
}

// dir makes a directory.
func (x *site) dir(dir api.ID, name string) api.ID {
	x.t.Helper()
	return x.does(api.Event{Kind: api.KindDir, Dir: dir, Name: name})
}

// write makes a version of a file, in the place of the one latest version, if there is one.
func (x *site) write(file api.ID, data string) api.ID {
	x.t.Helper()
	heads := headsOf(objectOf(x.s, file))
	return x.does(api.Event{Kind: api.KindWrite, Obj: file, Base: heads[:min(len(heads), 1)], Data: data})
}

// fix makes a version of a file, in the place of all latest ones.
func (x *site) fix(file api.ID, data string) api.ID {
	x.t.Helper()
	return x.does(api.Event{Kind: api.KindFix, Obj: file, Base: headsOf(objectOf(x.s, file)), Data: data})
}

// numbersOf are the numbers of all entries of an object that are alive.
func (x *site) numbersOf(number api.ID) []api.ID {
	var l []api.ID
	for _, e := range livingOf(x.s, number) {
		l = append(l, e.ID)
	}
	return l
}

// drop lets all entries of an object go.
func (x *site) drop(number api.ID) api.ID {
	x.t.Helper()
	return x.does(api.Event{Kind: api.KindDrop, Obj: number, Gone: x.numbersOf(number)})
}

// move lets all entries of an object go, and gives it another one.
func (x *site) move(number, dir api.ID, name string) api.ID {
	x.t.Helper()
	return x.does(api.Event{Kind: api.KindMove, Obj: number, Gone: x.numbersOf(number), Dir: dir, Name: name})
}

// link gives an object another entry.
func (x *site) link(number, dir api.ID, name string) api.ID {
	x.t.Helper()
	return x.does(api.Event{Kind: api.KindMove, Obj: number, Dir: dir, Name: name})
}

// hears lets a replica know all that others know.
func (x *site) hears(others ...*site) {
	x.t.Helper()
	for _, other := range others {
		for _, e := range other.log {
			if !inside(x.s.Known, e.ID) {
				x.adds(e)
			}
		}
	}
}

// meet lets replicas come to know the same.
func meet(l ...*site) {
	for _, x := range l {
		x.t.Helper()
		x.hears(l...)
	}
}

// swept is a state without what the chapter of layer 18 says is swept from it by a vector, told anew.
func swept(s api.State, base api.Vec) api.State {
	went := func(by api.Vec) bool {
		for i, n := range by {
			if n > 0 && n <= base[i] {
				return true
			}
		}
		return false
	}
	s = state.Clone(s)
	s.Entries = slices.DeleteFunc(s.Entries, func(x api.Entry) bool { return went(x.By) })
	for i := range s.Objects {
		o := &s.Objects[i]
		o.Versions = slices.DeleteFunc(o.Versions, func(v api.Version) bool { return went(v.By) })
	}
	s.Objects = slices.DeleteFunc(s.Objects, func(o api.Object) bool { return !isNeeded(s, o, base) })
	return s
}

// isNeeded tells whether an object is needed with respect to a vector, as the chapter of layer 18 says, told anew.
func isNeeded(s api.State, o api.Object, base api.Vec) bool {
	if !inside(base, o.ID) {
		return true
	}
	for i, n := range o.Seen {
		if n > base[i] {
			return true
		}
	}
	for _, v := range o.Versions {
		if !inside(base, v.ID) || v.By == (api.Vec{}) && !inside(o.Seen, v.ID) {
			return true
		}
	}
	return slices.ContainsFunc(s.Entries, func(x api.Entry) bool { return x.Obj == o.ID || x.Dir == o.ID })
}
