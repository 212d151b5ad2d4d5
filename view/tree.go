package view

import (
	"wardship/api"
	"wardship/entry"
	"wardship/vec"
	"wardship/version"
)

// tree is what must be known of the whole of a state ahead of seeing any part of it.
type tree struct {
	objects map[api.ID]api.Object
	entries []api.Entry
	homes   map[api.ID]int         // by directories: which of the entries is the home
	rings   map[api.ID]struct{}    // of each ring the directory with the least number
	placed  map[api.ID]int         // by objects: how many places they have
	places  map[api.ID][]api.Entry // by directories: the places in them, except of lost objects
	lost    []api.ID
}

// grow makes the tree of a state, whose lists it goes on to use.
func grow(s api.State) *tree {
	t := &tree{
		objects: map[api.ID]api.Object{},
		entries: s.Entries,
		homes:   map[api.ID]int{},
		rings:   map[api.ID]struct{}{},
		placed:  map[api.ID]int{},
		places:  map[api.ID][]api.Entry{},
	}
	for _, o := range s.Objects {
		t.objects[o.ID] = o
	}
	t.findHomes()
	t.findRings(s.Objects)
	t.findPlaces()
	t.findLost(s.Objects)
	return t
}

// findHomes finds the home of each directory that has one.
func (t *tree) findHomes() {
	for i, x := range t.entries {
		if !entry.Alive(x) || !t.objects[x.Obj].Dir {
			continue
		}
		home, there := t.homes[x.Obj]
		if !there || vec.Less(t.entries[home].ID, x.ID) {
			t.homes[x.Obj] = i
		}
	}
}

// findRings finds the directories that are in each other, by going up from each one as far as nobody has gone.
func (t *tree) findRings(l []api.Object) {
	passed := map[api.ID]int{} // by directories: in which turn they were passed
	for i, o := range l {
		turn, at := i+1, o.ID
		for passed[at] == 0 {
			up, there := t.above(at)
			if !there {
				break
			}
			passed[at] = turn
			at = up
		}
		if passed[at] == turn {
			t.rings[t.least(at)] = struct{}{}
		}
	}
}

// above is the number of the directory in which a directory's home is; false: it has none.
func (t *tree) above(dir api.ID) (api.ID, bool) {
	home, there := t.homes[dir]
	if !there {
		return api.ID{}, false
	}
	return t.entries[home].Dir, true
}

// least is the least number in the ring that a directory is part of.
func (t *tree) least(dir api.ID) api.ID {
	least := dir
	for at, _ := t.above(dir); at != dir; at, _ = t.above(at) {
		if vec.Less(at, least) {
			least = at
		}
	}
	return least
}

// findPlaces finds the places, by their objects and by their directories.
func (t *tree) findPlaces() {
	for i, x := range t.entries {
		if !t.isPlace(i) {
			continue
		}
		t.placed[x.Obj]++
		// Nothing else that is lost has places.
		if _, lost := t.rings[x.Obj]; !lost {
			t.places[x.Dir] = append(t.places[x.Dir], x)
		}
	}
}

// isPlace tells whether one of the entries is a place of its object.
func (t *tree) isPlace(i int) bool {
	x := t.entries[i]
	return entry.Alive(x) && (!t.objects[x.Obj].Dir || t.homes[x.Obj] == i)
}

// findLost finds the lost ones among the objects, in their order.
func (t *tree) findLost(l []api.Object) {
	for _, o := range l {
		if t.isLost(o) {
			t.lost = append(t.lost, o.ID)
		}
	}
}

// isLost tells whether an object is needed, but has no place to be seen at.
func (t *tree) isLost(o api.Object) bool {
	if _, ring := t.rings[o.ID]; ring {
		return true
	}
	switch {
	case t.placed[o.ID] > 0:
		return false
	case o.Dir:
		return len(t.places[o.ID]) > 0
	}
	return version.Unseen(o.Versions, o.Seen)
}
