package event

import (
	"wardship/api"
	"wardship/codec"
	"wardship/span"
)

// fieldCount is how many fields the bytes of an event are.
const fieldCount = 12

// WriteIDs is the bytes of a list of numbers whose replicas each fit in a byte.
func WriteIDs(l []api.ID) []byte {
	fields := make([][]byte, len(l))
	for i, id := range l {
		fields[i] = writeID(id)
	}
	// A number has at most five bytes, so no field is too long.
	b, _ := codec.Pack(fields...)
	return b
}

// ReadIDs is the list of numbers, at most most, whose bytes b are.
func ReadIDs(b []byte, most int) ([]api.ID, api.Errno) {
	fields, err := codec.Unpack(b, most)
	if err != api.OK {
		return nil, err
	}
	l := make([]api.ID, len(fields))
	for i, field := range fields {
		id, ok := readID(field)
		if !ok {
			return nil, api.ErrForm
		}
		l[i] = id
	}
	return l, api.OK
}

// Write is the bytes of e, if it is valid.
func Write(e api.Event) ([]byte, api.Errno) {
	if !Check(e) {
		return nil, api.ErrForm
	}
	return codec.Pack(
		codec.Num(uint64(e.ID.Rep)),
		codec.Num(uint64(e.ID.Seq)),
		span.Shrink(e.Dep, api.Vec{}),
		codec.Num(uint64(e.Kind)),
		writeID(e.Obj),
		writeID(e.Dir),
		[]byte(e.Name),
		WriteIDs(e.Gone),
		WriteIDs(e.Base),
		codec.Num(uint64(e.Off)),
		[]byte(e.Data),
		codec.Num(uint64(e.Ward)),
	)
}

// Read is the valid event whose bytes b are.
func Read(b []byte) (api.Event, api.Errno) {
	fields, err := codec.Unpack(b, fieldCount)
	if err != api.OK {
		return api.Event{}, err
	}
	if len(fields) < fieldCount {
		return api.Event{}, api.ErrCut
	}
	e, ok := readEvent(fields)
	if !ok || !Check(e) {
		return api.Event{}, api.ErrForm
	}
	return e, api.OK
}

// readEvent is the event, valid or not, that as many fields as an event has tell of, and whether each is of its form.
func readEvent(fields [][]byte) (api.Event, bool) {
	r := reader{rest: fields}
	var e api.Event
	e.ID.Rep = r.number()
	e.ID.Seq = uint32(r.number())
	e.Dep = r.vector()
	e.Kind = r.number()
	e.Obj = r.id()
	e.Dir = r.id()
	e.Name = string(r.next())
	e.Gone = r.ids()
	e.Base = r.ids()
	e.Off = r.number()
	e.Data = string(r.next())
	e.Ward = r.number()
	return e, !r.wrong
}

// reader takes one field after the other; wrong tells whether one of them wasn't of its form.
type reader struct {
	rest  [][]byte
	wrong bool
}

// next is the next field, as it is.
func (r *reader) next() []byte {
	field := r.rest[0]
	r.rest = r.rest[1:]
	return field
}

// number is the number that the next field is.
func (r *reader) number() int {
	n, ok := readNumber(r.next())
	r.wrong = r.wrong || !ok
	return n
}

// vector is the vector that the next field is, relative to the zero vector.
func (r *reader) vector() api.Vec {
	v, err := span.Grow(r.next(), api.Vec{})
	r.wrong = r.wrong || err != api.OK
	return v
}

// id is the event number that the next field is.
func (r *reader) id() api.ID {
	id, ok := readID(r.next())
	r.wrong = r.wrong || !ok
	return id
}

// ids is the list of event numbers that the next field is.
func (r *reader) ids() []api.ID {
	l, err := ReadIDs(r.next(), api.MaxIDs)
	r.wrong = r.wrong || err != api.OK
	return l
}

// writeID is the bytes of id.
func writeID(id api.ID) []byte {
	if id == (api.ID{}) {
		return nil
	}
	return append([]byte{byte(id.Rep)}, codec.Num(uint64(id.Seq))...)
}

// readID is the event number whose bytes b are.
func readID(b []byte) (api.ID, bool) {
	if len(b) == 0 {
		return api.ID{}, true
	}
	seq, ok := readNumber(b[1:])
	id := api.ID{Rep: int(b[0]), Seq: uint32(seq)}
	// The zero number has no bytes; a byte 0 would be a second form of it.
	if !ok || id == (api.ID{}) {
		return api.ID{}, false
	}
	return id, true
}

// readNumber is the number whose bytes b are; no number of an event is greater than MaxSeq.
func readNumber(b []byte) (int, bool) {
	n, err := codec.AsNum(b)
	if err != api.OK || n > api.MaxSeq {
		return 0, false
	}
	return int(n), true
}
