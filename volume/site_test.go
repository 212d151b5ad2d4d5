package volume_test

import (
	"slices"
	"testing"

	"wardship/api"
	"wardship/state"
	"wardship/view"
)

// site is a replica, by what it did and heard, in its order, and what that comes to.
type site struct {
	t   *testing.T
	rep int
	s   api.State
	log []api.Event
}

// sites are so many replicas that know nothing.
func sites(t *testing.T, n int) []*site {
	var l []*site
	for rep := range n {
		l = append(l, &site{t: t, rep: rep + 1})
	}
	return l
}

// adds applies an event.
func (x *site) adds(e api.Event) {
	x.t.Helper()
	next, err := state.Apply(x.s, e)
	if err != api.OK {
		x.t.Fatalf("Apply of %+v: %d", e, err)
	}
	x.s, x.log = next, append(x.log, e)
}

// asks lets a replica do what a client asks.
func (x *site) asks(op api.Op) api.ID {
	x.t.Helper()
	e, err := asked(x.t, x.s, x.rep, nil, op)
	if err != api.OK {
		x.t.Fatalf("%+v: %d", op, err)
	}
	x.adds(e)
	return e.ID
}

// refuses checks that a replica refuses what a client asks.
func (x *site) refuses(want api.Errno, op api.Op) {
	x.t.Helper()
	refuses(x.t, want, x.s, x.rep, nil, op)
}

// create makes a file.
func (x *site) create(at string) api.ID {
	x.t.Helper()
	return x.asks(api.Op{Verb: "create", Path: at})
}

// mkdir makes a directory.
func (x *site) mkdir(at string) api.ID {
	x.t.Helper()
	return x.asks(api.Op{Verb: "mkdir", Path: at})
}

// write makes a version of a file.
func (x *site) write(at, data string) api.ID {
	x.t.Helper()
	return x.asks(api.Op{Verb: "write", Path: at, Data: data})
}

// remove removes what is at a path.
func (x *site) remove(at string) api.ID {
	x.t.Helper()
	return x.asks(api.Op{Verb: "remove", Path: at})
}

// rename moves what is at a path.
func (x *site) rename(at, to string) api.ID {
	x.t.Helper()
	return x.asks(api.Op{Verb: "rename", Path: at, To: to})
}

// does lets a replica do something that no operation comes to.
func (x *site) does(e api.Event) api.ID {
	x.t.Helper()
	e.ID, e.Dep = id(x.rep, x.s.Known[x.rep-1]+1), x.s.Known
	x.adds(e)
	return e.ID
}

// link gives an object another entry.
func (x *site) link(number, dir api.ID, name string) api.ID {
	x.t.Helper()
	return x.does(api.Event{Kind: api.KindMove, Obj: number, Dir: dir, Name: name})
}

// also gives a file a version beside those that it has.
func (x *site) also(file api.ID, data string) api.ID {
	x.t.Helper()
	return x.does(api.Event{Kind: api.KindWrite, Obj: file, Data: data})
}

// hears lets a replica know all that others know.
func (x *site) hears(others ...*site) {
	x.t.Helper()
	for _, other := range others {
		for _, e := range other.log {
			if !inside(x.s.Known, e.ID) {
				x.adds(e)
			}
		}
	}
}

// meet lets replicas come to know the same.
func meet(l ...*site) {
	for _, x := range l {
		x.t.Helper()
		x.hears(l...)
	}
}

// isSeenAs checks the paths of all that a replica sees, in order.
func (x *site) isSeenAs(want ...string) {
	x.t.Helper()
	var got []string
	for n := range view.Walk(x.s) {
		got = append(got, n.Path)
	}
	if !slices.Equal(got, want) {
		x.t.Fatalf("%q, not %q", got, want)
	}
}

// grove is two replicas that know the same: files with no version, with one, with two; names that clash; a ring of directories, a file and a directory in lost+found.
func grove(t *testing.T) (*site, *site) {
	t.Helper()
	l := sites(t, 2)
	one, two := l[0], l[1]
	one.mkdir("/d")             // 1.1
	one.mkdir("/d/e")           // 1.2
	one.create("/d/e/f")        // 1.3
	one.create("/z")            // 1.4
	one.write("/d/e/f", "text") // 1.5
	one.create("/d/g")          // 1.6
	one.mkdir("/p")             // 1.7
	one.mkdir("/q")             // 1.8
	one.create("/l")            // 1.9
	one.write("/l", "old")      // 1.10
	one.create("/c")            // 1.11
	one.mkdir("/h")             // 1.12
	one.create("/h/in")         // 1.13
	one.mkdir("/void")          // 1.14
	meet(l...)
	one.write("/c", "one")   // 1.15
	one.rename("/p", "/q/p") // 1.16
	one.remove("/l")         // 1.17
	one.remove("/h/in")      // 1.18
	one.remove("/h")         // 1.19
	one.create("/n")         // 1.20
	two.write("/c", "two")   // 2.1
	two.rename("/q", "/p/q") // 2.2
	two.write("/l", "new")   // 2.3
	two.create("/h/late")    // 2.4
	two.mkdir("/n")          // 2.5
	two.create("/n/x")       // 2.6
	two.create("/p/in")      // 2.7
	meet(l...)
	one.isSeenAs(grovePaths()...)
	return one, two
}

// grovePaths are the paths of all that is seen in the grove, in order.
func grovePaths() []string {
	return []string{
		"/c", "/d", "/d/e", "/d/e/f", "/d/g", "/n", "/n/x", "/n~1.20", "/void", "/z", "/lost+found",
		"/lost+found/p~1.7", "/lost+found/p~1.7/in", "/lost+found/p~1.7/q", "/lost+found/l~1.9", "/lost+found/h~1.12", "/lost+found/h~1.12/late",
	}
}

// swept is a state without what the chapter of layer 18 says is swept from it by a vector, told anew.
func swept(s api.State, base api.Vec) api.State {
	went := func(by api.Vec) bool {
		for i, n := range by {
			if n > 0 && n <= base[i] {
				return true
			}
		}
		return false
	}
	s = state.Clone(s)
	s.Entries = slices.DeleteFunc(s.Entries, func(x api.Entry) bool { return went(x.By) })
	for i := range s.Objects {
		o := &s.Objects[i]
		o.Versions = slices.DeleteFunc(o.Versions, func(v api.Version) bool { return went(v.By) })
	}
	s.Objects = slices.DeleteFunc(s.Objects, func(o api.Object) bool { return !isNeeded(s, o, base) })
	return s
}

// isNeeded tells whether an object is needed with respect to a vector, as the chapter of layer 18 says, told anew.
func isNeeded(s api.State, o api.Object, base api.Vec) bool {
	if !inside(base, o.ID) {
		return true
	}
	for i, n := range o.Seen {
		if n > base[i] {
			return true
		}
	}
	for _, v := range o.Versions {
		if !inside(base, v.ID) || v.By == (api.Vec{}) && !inside(o.Seen, v.ID) {
			return true
		}
	}
	return slices.ContainsFunc(s.Entries, func(x api.Entry) bool { return x.Obj == o.ID || x.Dir == o.ID })
}
