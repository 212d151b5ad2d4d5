package volume

import (
	"wardship/api"
	"wardship/choose"
	"wardship/entry"
	"wardship/event"
	"wardship/path"
	"wardship/view"
)

// held is a state, and which part of it a replica has.
type held struct {
	state  api.State
	chosen []string
}

// find is what is seen at a path that is chosen.
func (h held) find(at string) (api.Node, api.Errno) {
	if _, err := path.Split(at); err != api.OK {
		return api.Node{}, err
	}
	if !choose.Has(h.chosen, at) {
		return api.Node{}, api.ErrChosen
	}
	return view.Find(h.state, at)
}

// thing is an object that is seen at a path: the root and lost+found are none.
func (h held) thing(at string) (api.Node, api.Errno) {
	n, err := h.find(at)
	if err != api.OK {
		return api.Node{}, err
	}
	if n.Obj == (api.ID{}) {
		return api.Node{}, api.ErrArg
	}
	return n, api.OK
}

// file is a file that is seen at a path.
func (h held) file(at string) (api.Node, api.Errno) { return onlyFile(h.thing(at)) }

// onlyFile is what was found, if it is a file.
func onlyFile(n api.Node, err api.Errno) (api.Node, api.Errno) {
	switch {
	case err != api.OK:
		return api.Node{}, err
	case n.Dir:
		return api.Node{}, api.ErrIsDir
	}
	return n, api.OK
}

// place is the directory and the name by which a new entry is seen at a path.
func (h held) place(at string) (api.ID, string, api.Errno) {
	parts, err := path.Split(at)
	if err != api.OK {
		return api.ID{}, "", err
	}
	if len(parts) == 0 {
		return api.ID{}, "", api.ErrExists
	}
	above, name := parts[:len(parts)-1], parts[len(parts)-1]
	if !event.Name(name) {
		return api.ID{}, "", api.ErrPath
	}
	if !choose.Has(h.chosen, at) {
		return api.ID{}, "", api.ErrChosen
	}
	dir, err := h.holder(path.Join(above...))
	if err != api.OK {
		return api.ID{}, "", err
	}
	if _, err := view.Find(h.state, at); err == api.OK {
		return api.ID{}, "", api.ErrExists
	}
	return dir.Obj, name, api.OK
}

// holder is a directory, chosen or not, in which an entry can be: none is in lost+found.
func (h held) holder(at string) (api.Node, api.Errno) {
	dir, err := view.Find(h.state, at)
	switch {
	case err != api.OK:
		return api.Node{}, err
	case !dir.Dir:
		return api.Node{}, api.ErrNotDir
	case dir.Path == path.Join(path.Lost):
		return api.Node{}, api.ErrArg
	}
	return dir, api.OK
}

// going are the entries that go with what is seen: of a file, which may be seen elsewhere too, the one; of a directory, which is seen once, all that an event can name.
func (h held) going(n api.Node) []api.ID {
	var l []api.ID
	if !n.Dir {
		if n.Entry != (api.ID{}) {
			l = append(l, n.Entry)
		}
		return l
	}
	for x := range entry.Of(h.state.Entries, n.Obj) {
		if len(l) == api.MaxIDs {
			break
		}
		l = append(l, x.ID)
	}
	return l
}
