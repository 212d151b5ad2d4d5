package state

import (
	"wardship/api"
	"wardship/codec"
	"wardship/span"
	"wardship/vec"
)

// Write is a state's bytes: encoded fields, one for each number, text and vector, and the length of a list ahead of what is in it.
func Write(s api.State) []byte {
	w := &writer{}
	w.vector(s.Known)
	for _, ward := range s.Wards {
		w.number(uint64(ward))
	}
	for _, retired := range s.Retired {
		w.flag(retired)
	}
	writeList(w, s.Objects, w.object)
	writeList(w, s.Entries, w.entry)
	// No text that events come to is too long for a field.
	b, _ := codec.Pack(w.fields...)
	return b
}

// Read is the state of bytes.
func Read(b []byte) (s api.State, err api.Errno) {
	defer func() {
		if recover() != nil {
			s, err = api.State{}, api.ErrForm
		}
	}()
	// Each field has a byte at least, so they can't be more than the bytes are.
	fields, wrong := codec.Unpack(b, len(b))
	must(wrong == api.OK)
	r := &reader{rest: fields}
	s = r.state()
	must(len(r.rest) == 0)
	return s, api.OK
}

// writer takes one field after the other.
type writer struct {
	fields [][]byte
}

// add is one field more.
func (w *writer) add(field []byte) { w.fields = append(w.fields, field) }

// number writes a number; one below 0, which no event comes to, as what it is modulo 2^64.
func (w *writer) number(n uint64) { w.add(codec.Num(n)) }

// text writes a text.
func (w *writer) text(s string) { w.add([]byte(s)) }

// vector writes a vector. Most of a state's vectors are near the zero vector, so they are told relative to it.
func (w *writer) vector(v api.Vec) { w.add(span.Shrink(v, api.Vec{})) }

// flag writes 1 or 0.
func (w *writer) flag(is bool) {
	if is {
		w.number(1)
	} else {
		w.number(0)
	}
}

// id writes an event number.
func (w *writer) id(id api.ID) {
	w.number(uint64(id.Rep))
	w.number(uint64(id.Seq))
}

// object writes an object.
func (w *writer) object(o api.Object) {
	w.id(o.ID)
	w.flag(o.Dir)
	w.id(o.Last)
	w.text(o.Name)
	w.vector(o.Seen)
	writeList(w, o.Versions, w.version)
}

// version writes a version.
func (w *writer) version(v api.Version) {
	w.id(v.ID)
	w.text(v.Data)
	w.vector(v.By)
}

// entry writes an entry.
func (w *writer) entry(x api.Entry) {
	w.id(x.ID)
	w.id(x.Dir)
	w.text(x.Name)
	w.id(x.Obj)
	w.vector(x.By)
}

// writeList writes how many things there are, and each of them, as they come: that they are in order is for the reader to check.
func writeList[T any](w *writer, l []T, one func(T)) {
	w.number(uint64(len(l)))
	for _, x := range l {
		one(x)
	}
}

// reader takes one field after the other, and gives up by a panic at the first one that isn't of its form.
// No field has two forms, so no state has other bytes than those that are written.
type reader struct {
	rest [][]byte
}

// must gives up unless something holds.
func must(holds bool) {
	if !holds {
		panic(api.ErrForm)
	}
}

// next is the next field, as it is.
func (r *reader) next() []byte {
	must(len(r.rest) > 0)
	field := r.rest[0]
	r.rest = r.rest[1:]
	return field
}

// readNumber is the number that the next field is, if there is such a one of that type.
func readNumber[T int | uint32](r *reader) T {
	n, err := codec.AsNum(r.next())
	must(err == api.OK && uint64(T(n)) == n)
	return T(n)
}

// text is the text that the next field is.
func (r *reader) text() string { return string(r.next()) }

// vector is the vector that the next field is, relative to the zero vector.
func (r *reader) vector() api.Vec {
	v, err := span.Grow(r.next(), api.Vec{})
	must(err == api.OK)
	return v
}

// flag is whether the next field is 1, and not 0.
func (r *reader) flag() bool {
	n := readNumber[uint32](r)
	must(n <= 1)
	return n == 1
}

// id is the event number that the next two fields are.
func (r *reader) id() api.ID {
	return api.ID{Rep: readNumber[int](r), Seq: readNumber[uint32](r)}
}

// state is the state that the next fields are.
func (r *reader) state() api.State {
	s := api.State{Known: r.vector()}
	for i := range s.Wards {
		s.Wards[i] = readNumber[int](r)
	}
	for i := range s.Retired {
		s.Retired[i] = r.flag()
	}
	s.Objects = readList(r, r.object, func(o api.Object) api.ID { return o.ID })
	s.Entries = readList(r, r.entry, func(x api.Entry) api.ID { return x.ID })
	return s
}

// object is the object that the next fields are.
func (r *reader) object() api.Object {
	return api.Object{
		ID:       r.id(),
		Dir:      r.flag(),
		Last:     r.id(),
		Name:     r.text(),
		Seen:     r.vector(),
		Versions: readList(r, r.version, func(v api.Version) api.ID { return v.ID }),
	}
}

// version is the version that the next fields are.
func (r *reader) version() api.Version {
	return api.Version{ID: r.id(), Data: r.text(), By: r.vector()}
}

// entry is the entry that the next fields are.
func (r *reader) entry() api.Entry {
	return api.Entry{ID: r.id(), Dir: r.id(), Name: r.text(), Obj: r.id(), By: r.vector()}
}

// readList is as many things as the next field says, in the order of their numbers.
func readList[T any](r *reader, one func() T, number func(T) api.ID) []T {
	var l []T
	for range readNumber[uint32](r) {
		l = append(l, one())
	}
	must(inOrder(l, number))
	return l
}

// inOrder tells whether a list is in the order of its numbers, each of them once.
func inOrder[T any](l []T, number func(T) api.ID) bool {
	for i := 1; i < len(l); i++ {
		if !vec.Less(number(l[i-1]), number(l[i])) {
			return false
		}
	}
	return true
}
