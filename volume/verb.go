package volume

import (
	"slices"
	"strings"

	"wardship/api"
	"wardship/path"
	"wardship/version"
	"wardship/view"
)

// minFix is how many latest versions there are at least where they are made one.
const minFix = 2

// answer is the event of an operation, but for whose it is and what that replica knew.
func (h held) answer(op api.Op) (api.Event, api.Errno) {
	switch op.Verb {
	case "create":
		return h.create(api.KindFile, op)
	case "mkdir":
		return h.create(api.KindDir, op)
	case "write":
		return h.write(op)
	case "cut":
		return h.cut(op)
	case "fix":
		return h.fix(op)
	case "remove":
		return h.remove(op)
	case "rename":
		return h.rename(op)
	case "seat":
		return seat(op)
	case "retire":
		return api.Event{Kind: api.KindRetire}, api.OK
	}
	return api.Event{}, api.ErrArg
}

// create makes a file or a directory.
func (h held) create(kind int, op api.Op) (api.Event, api.Errno) {
	if len(h.state.Objects) >= api.MaxObject {
		return api.Event{}, api.ErrFull
	}
	dir, name, err := h.place(op.Path)
	if err != api.OK {
		return api.Event{}, err
	}
	return api.Event{Kind: kind, Dir: dir, Name: name}, api.OK
}

// write puts bytes into a file.
func (h held) write(op api.Op) (api.Event, api.Errno) {
	n, err := h.settled(op.Path)
	if err != api.OK {
		return api.Event{}, err
	}
	if op.Data == "" {
		return api.Event{}, api.ErrArg
	}
	if _, err := version.Patch(n.Data, op.N, op.Data); err != api.OK {
		return api.Event{}, err
	}
	// An answer shares no memory with an argument.
	return api.Event{Kind: api.KindWrite, Obj: n.Obj, Base: n.Heads, Off: op.N, Data: strings.Clone(op.Data)}, api.OK
}

// cut gives a file another length.
func (h held) cut(op api.Op) (api.Event, api.Errno) {
	n, err := h.settled(op.Path)
	if err != api.OK {
		return api.Event{}, err
	}
	if _, err := version.Cut(n.Data, op.N); err != api.OK {
		return api.Event{}, err
	}
	return api.Event{Kind: api.KindCut, Obj: n.Obj, Base: n.Heads, Off: op.N}, api.OK
}

// settled is a file at a path that has at most one latest version.
func (h held) settled(at string) (api.Node, api.Errno) {
	n, err := h.file(at)
	if err != api.OK {
		return api.Node{}, err
	}
	if len(n.Heads) > 1 {
		return api.Node{}, api.ErrConflict
	}
	return n, api.OK
}

// fix makes several versions of a file one.
func (h held) fix(op api.Op) (api.Event, api.Errno) {
	n, err := h.file(op.Path)
	switch {
	case err != api.OK:
		return api.Event{}, err
	case len(n.Heads) < minFix:
		return api.Event{}, api.ErrState
	case len(op.Data) > api.MaxData:
		return api.Event{}, api.ErrLong
	}
	base := slices.Clone(n.Heads[:min(len(n.Heads), api.MaxIDs)])
	return api.Event{Kind: api.KindFix, Obj: n.Obj, Base: base, Data: strings.Clone(op.Data)}, api.OK
}

// remove lets a file go, or a directory in which nothing is seen.
func (h held) remove(op api.Op) (api.Event, api.Errno) {
	n, err := h.thing(op.Path)
	if err != api.OK {
		return api.Event{}, err
	}
	// Of a file In answers that it is no directory, and nothing else.
	if in, _ := view.In(h.state, op.Path); len(in) > 0 {
		return api.Event{}, api.ErrBusy
	}
	return api.Event{Kind: api.KindDrop, Obj: n.Obj, Gone: h.going(n)}, api.OK
}

// rename moves a file or a directory to another path.
func (h held) rename(op api.Op) (api.Event, api.Errno) {
	n, err := h.thing(op.Path)
	if err != api.OK {
		return api.Event{}, err
	}
	if n.Dir && path.Within(op.To, op.Path) {
		return api.Event{}, api.ErrSelf
	}
	dir, name, err := h.place(op.To)
	if err != api.OK {
		return api.Event{}, err
	}
	return api.Event{Kind: api.KindMove, Obj: n.Obj, Gone: h.going(n), Dir: dir, Name: name}, api.OK
}

// seat lets the replica belong to a ward.
func seat(op api.Op) (api.Event, api.Errno) {
	if op.N < 1 || op.N > api.MaxWard {
		return api.Event{}, api.ErrArg
	}
	return api.Event{Kind: api.KindSeat, Ward: op.N}, api.OK
}
