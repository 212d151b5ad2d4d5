package volume_test

import (
	"strings"
	"testing"

	"wardship/api"
	"wardship/event"
	"wardship/path"
)

// dice is numbers that a plain rule makes of a seed.
type dice uint32

// roll is a number below n.
func (d *dice) roll(n int) int {
	*d = *d*1664525 + 1013904223
	return int(uint32(*d)>>8) % n
}

// text is one of some texts.
func (d *dice) text(l ...string) string { return l[d.roll(len(l))] }

// path is a path by chance: of a file or of a directory, as is told, of anything that is there, of what isn't, of nothing.
func (d *dice) path(s api.State, dir bool) string {
	var all, some []string
	for _, n := range walked(s) {
		all = append(all, n.Path)
		if n.Dir == dir {
			some = append(some, n.Path)
		}
	}
	switch what := d.roll(12); {
	case what == 0:
		return d.text("/", "/lost+found", "", "a", "/a/", "/a~1.1", "/lost+found/a")
	case what < 3 && len(all) > 0:
		return below(d.text(all...), d.text("a", "b", "cc"))
	case what < 4 || len(all) == 0:
		return below("/", d.text("a", "b", "cc"))
	case what < 6 || len(some) == 0:
		return d.text(all...)
	}
	return d.text(some...)
}

// free is a path by chance, of which the directory is there.
func (d *dice) free(s api.State) string {
	dirs := []string{"/"}
	for _, n := range walked(s) {
		if n.Dir {
			dirs = append(dirs, n.Path)
		}
	}
	return below(d.text(dirs...), d.text("a", "b", "cc", "d"))
}

// chosen is a list of paths by chance.
func (d *dice) chosen(s api.State) []string {
	if d.roll(4) > 0 {
		return nil
	}
	var l []string
	for range d.roll(4) {
		l = append(l, d.path(s, true))
	}
	return l
}

// op is an operation by chance.
func (d *dice) op(s api.State) api.Op {
	op := api.Op{
		Verb: d.text("create", "mkdir", "mkdir", "write", "write", "cut", "fix", "fix", "fix", "remove", "rename", "rename", "rename", "rename", "rename", "rename", "rename"),
		To:   d.free(s), N: []int{0, 0, 0, 1, 5, 199, 200, 201, -1}[d.roll(9)], Data: d.text("", "x", "x", "one", "one", strings.Repeat("y", 200), strings.Repeat("y", 201)),
	}
	op.Path = d.path(s, op.Verb == "rename" || op.Verb == "remove")
	if op.Verb == "create" || op.Verb == "mkdir" {
		op.Path = d.free(s)
	}
	switch d.roll(16) {
	case 0:
		op.To = d.path(s, true)
	case 1:
		op.Path = d.path(s, true)
	}
	switch d.roll(40) {
	case 0:
		op.Verb, op.N = "seat", d.roll(6)
	case 1:
		op.Verb = d.text("", "Create", "retired", "make")
	}
	return op
}

// tally is how often what was come by.
type tally struct {
	verbs map[string]int
	errs  map[api.Errno]int
	// How often a directory was moved to a place in lost+found, something to a place whose path changed, and something in lost+found was changed.
	inLost, changed, ofLost int
}

// counts adds an operation.
func (c *tally) counts(t *testing.T, before, after api.State, op api.Op, e api.Event) {
	t.Helper()
	c.verbs[op.Verb]++
	if path.Within(op.Path, "/lost+found") {
		c.ofLost++
	}
	if op.Verb != "rename" {
		return
	}
	if path.Within(op.To, "/lost+found") {
		c.inLost++
	}
	if pathOf(t, after, e.Dir) != pathOf(t, before, e.Dir) {
		c.changed++
	}
}

// acts lets a replica do something by chance.
func (d *dice) acts(c *tally, x *site) {
	x.t.Helper()
	op, chosen, before := d.op(x.s), d.chosen(x.s), x.s
	if len(before.Objects) > 14 && (op.Verb == "create" || op.Verb == "mkdir") {
		return
	}
	e, err := asked(x.t, x.s, x.rep, chosen, op)
	c.errs[err]++
	if err == api.OK {
		x.adds(e)
		c.counts(x.t, before, x.s, op, e)
	}
}

// strays lets a replica do something by chance that no operation comes to: an object gets another entry, a file another version.
func (d *dice) strays(x *site) {
	x.t.Helper()
	l := x.s.Objects
	if len(l) == 0 {
		return
	}
	o, dir := l[d.roll(len(l))], l[d.roll(len(l))]
	switch {
	case !o.Dir && d.roll(3) > 0:
		x.also(o.ID, d.text("a", "bb"))
	case dir.Dir && dir.ID != o.ID:
		x.link(o.ID, dir.ID, d.text("a", "b", "cc"))
	default:
		x.link(o.ID, root, d.text("a", "b", "cc"))
	}
}

// vector is a vector of at most what another one contains.
func (d *dice) vector(v api.Vec) api.Vec {
	for i, n := range v {
		if d.roll(3) > 0 {
			v[i] = uint32(d.roll(int(n) + 1))
		}
	}
	return v
}

// begun are four replicas that know of some files and directories.
func begun(t *testing.T) []*site {
	t.Helper()
	l := sites(t, 4)
	l[0].mkdir("/a")
	l[0].mkdir("/b")
	l[0].mkdir("/a/b")
	l[0].create("/cc")
	l[0].create("/a/a")
	l[0].write("/cc", "old")
	meet(l...)
	return l
}

// P15.1, P15.2, P15.3: what replicas are asked by chance, and hear from each other, comes to the events, and is read, as the chapter says, whatever was swept.
func TestByChance(t *testing.T) {
	c := tally{verbs: map[string]int{}, errs: map[api.Errno]int{}}
	for seed := range dice(400) {
		d := seed * 77
		l := begun(t)
		for range 60 {
			x := l[d.roll(len(l))]
			switch d.roll(10) {
			case 0, 1, 2:
				x.hears(l[d.roll(len(l))])
			case 3:
				if seed%2 == 0 {
					d.strays(x)
				}
			default:
				d.acts(&c, x)
			}
		}
		meet(l...)
		for range 8 {
			d.acts(&c, l[0])
		}
		isVolume(t, l[0].s, nil)
		isVolume(t, l[0].s, d.chosen(l[0].s))
		isSweptTheSame(t, &d, l[0].s)
	}
	for _, verb := range []string{"create", "mkdir", "write", "cut", "fix", "remove", "rename", "seat"} {
		if c.verbs[verb] < 50 {
			t.Errorf("%s: %d times", verb, c.verbs[verb])
		}
	}
	for _, err := range []api.Errno{
		api.OK, api.ErrArg, api.ErrNone, api.ErrState, api.ErrLong, api.ErrPath, api.ErrExists, api.ErrNotDir, api.ErrIsDir, api.ErrBusy, api.ErrConflict, api.ErrSelf, api.ErrChosen,
	} {
		if c.errs[err] < 50 {
			t.Errorf("the error %d: %d times", err, c.errs[err])
		}
	}
	if min(c.inLost, c.changed, c.ofLost) < 10 {
		t.Errorf("too little of something: %+v", c)
	}
}

// isSweptTheSame checks what is read of a state from which something was swept, and what comes of operations then: the same as ahead of that (layer 18).
func isSweptTheSame(t *testing.T, d *dice, s api.State) {
	t.Helper()
	less, chosen := swept(s, d.vector(s.Known)), d.chosen(s)
	isVolume(t, less, chosen)
	for range 20 {
		op := d.op(s)
		e, err := asked(t, less, 1, chosen, op)
		if want, wantErr := asked(t, s, 1, chosen, op); err != wantErr || !event.Same(e, want) {
			t.Fatalf("%+v: %+v, %d, not %+v, %d", op, e, err, want, wantErr)
		}
	}
}
