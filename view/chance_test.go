package view_test

import (
	"slices"
	"testing"

	"wardship/api"
	"wardship/state"
	"wardship/view"
)

// dice is numbers that a plain rule makes of a seed.
type dice uint32

// roll is a number below n.
func (d *dice) roll(n int) int {
	*d = *d*1664525 + 1013904223
	return int(uint32(*d)>>8) % n
}

// among is one of some numbers, or the zero number if there are none.
func (d *dice) among(l []api.ID) api.ID {
	if len(l) == 0 {
		return api.ID{}
	}
	return l[d.roll(len(l))]
}

// some is each of some numbers, or not.
func (d *dice) some(l []api.ID) []api.ID {
	var few []api.ID
	for _, number := range l {
		if d.roll(3) > 0 && len(few) < api.MaxIDs {
			few = append(few, number)
		}
	}
	return few
}

// objectsOf are the numbers of a state's directories, or of its files.
func objectsOf(s api.State, dir bool) []api.ID {
	var l []api.ID
	for _, o := range s.Objects {
		if o.Dir == dir {
			l = append(l, o.ID)
		}
	}
	return l
}

// acts lets a replica do something by chance.
func (d *dice) acts(x *site) {
	dirs, files := objectsOf(x.s, true), objectsOf(x.s, false)
	dir, file, where := d.among(dirs), d.among(files), d.among(append(dirs, root))
	name := []string{"a", "b", "cc"}[d.roll(3)]
	of := dir
	if d.roll(2) == 0 {
		of = file
	}
	if of == where {
		where = d.among(append(dirs, root))
	}
	gone := d.some(x.numbersOf(of))
	if d.roll(2) == 0 {
		gone = x.numbersOf(of)
		gone = gone[:min(len(gone), api.MaxIDs)]
	}
	switch what := d.roll(12); {
	case what < 2 && len(x.s.Objects) < 14:
		x.dir(where, name)
	case what < 4 && len(x.s.Objects) < 14:
		x.file(where, name)
	case what < 6 && file != root:
		heads := headsOf(objectOf(x.s, file))
		if d.roll(2) == 0 && len(heads) > 1 {
			x.does(api.Event{Kind: api.KindFix, Obj: file, Base: heads[:min(len(heads), api.MaxIDs)], Data: name})
		} else {
			x.write(file, name)
		}
	case what < 8 && of != root:
		x.does(api.Event{Kind: api.KindDrop, Obj: of, Gone: gone})
	case of != root:
		x.does(api.Event{Kind: api.KindMove, Obj: of, Gone: gone, Dir: where, Name: name})
	}
}

// vector is a vector of at most what another one contains.
func (d *dice) vector(v api.Vec) api.Vec {
	for i, n := range v {
		if d.roll(3) > 0 {
			v[i] = uint32(d.roll(int(n) + 1))
		}
	}
	return v
}

// tally is how often what was come by.
type tally struct {
	files, dirs, rings, selves, deep, clashes, sweeps int
}

// counts adds what is in a state.
func (c *tally) counts(s api.State) {
	for _, number := range lostOf(s) {
		switch ring := ringOf(s, number); {
		case !objectOf(s, number).Dir:
			c.files++
		case len(ring) == 0:
			c.dirs++
		case len(ring) == 1:
			c.selves++
		default:
			c.rings++
		}
	}
	for _, n := range treeOf(s) {
		if l, _ := view.In(s, n.Path); len(l) > 0 && n.Entry != root {
			c.deep++
		}
		if slices.Contains([]byte(n.Path), '~') && n.Entry != root {
			c.clashes++
		}
	}
}

// isSweptTheSame checks that a state from which something was swept is seen as it was, and as the chapter says.
func (c *tally) isSweptTheSame(t *testing.T, s api.State, base api.Vec) {
	t.Helper()
	less := swept(s, base)
	if !state.Same(less, s) {
		c.sweeps++
	}
	isTree(t, less)
	isNodes(t, "what was swept", walked(less), walked(s))
}

// P13.1, P13.2, P13.3: what replicas do by chance, and hear from each other, is seen as the chapter says at any time, whatever was swept.
func TestByChance(t *testing.T) {
	var c tally
	for seed := range dice(400) {
		d := seed * 77
		l := sites(t, 4)
		for range 60 {
			x := l[d.roll(len(l))]
			if d.roll(4) == 0 {
				x.hears(l[d.roll(len(l))])
			} else {
				d.acts(x)
			}
			if d.roll(4) == 0 {
				isTree(t, x.s)
				c.counts(x.s)
				c.isSweptTheSame(t, x.s, d.vector(x.s.Known))
			}
		}
		meet(l...)
		isTree(t, l[0].s)
		c.counts(l[0].s)
		c.isSweptTheSame(t, l[0].s, l[0].s.Known)
		for _, x := range l[1:] {
			isNodes(t, "replicas that know the same", walked(x.s), walked(l[0].s))
		}
	}
	if min(c.files, c.dirs, c.rings, c.selves, c.deep, c.clashes, c.sweeps) < 100 {
		t.Errorf("too little of something: %+v", c)
	}
}

// P13.3: swept by one event after the other, more and more of it, a state is seen the same.
func TestSweptBitByBit(t *testing.T) {
	s := grove(t)
	var base api.Vec
	for base != s.Known {
		for i := range base {
			base[i] = min(base[i]+1, s.Known[i])
			less := swept(s, base)
			isSeenAs(t, less, grovePaths()...)
			isNodes(t, "what was swept", walked(less), walked(s))
		}
	}
}

// P13.1: what is swept isn't there any more: a file that all know to be removed, its entries, versions that others replaced.
func TestSwept(t *testing.T) {
	l := sites(t, 2)
	one, two := l[0], l[1]
	f := one.file(root, "f")
	g := one.file(root, "g")
	d := one.dir(root, "d")
	one.write(g, "old")
	one.write(g, "new")
	meet(l...)
	two.file(d, "in")
	one.drop(f)
	one.drop(d)
	one.move(g, root, "G")
	meet(l...)
	s := swept(one.s, one.s.Known)
	if len(s.Objects) != 3 || len(s.Entries) != 2 {
		t.Fatalf("%+v", s)
	}
	isLostOnes(t, s, d)
	isSeenAs(t, s, "/G", "/lost+found", "/lost+found/d~1.3", "/lost+found/d~1.3/in")
	isAt(t, s, api.Node{Path: "/G", Obj: g, Entry: id(1, 8), Heads: ids(id(1, 5)), Data: "new"})
	// A file whose entries were swept, but not one of its versions.
	two.drop(g)
	one.write(g, "late")
	meet(l...)
	s = swept(one.s, one.s.Known)
	isLostOnes(t, s, g, d)
	isAt(t, s, api.Node{Path: "/lost+found/G~1.2", Obj: g, Heads: ids(id(1, 9)), Data: "late"})
	two.drop(g)
	s = swept(two.s, two.s.Known)
	isLostOnes(t, s, d)
	if _, there := state.Object(s, g); there {
		t.Error("the file is there")
	}
}
