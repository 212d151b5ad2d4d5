package vec_test

import (
	"testing"

	"wardship/api"
	"wardship/vec"
)

// answers is all that the package says of two vectors, a replica and two events.
type answers struct {
	get               uint32
	next              api.Vec
	nextErr           api.Errno
	leq               bool
	order             int
	join, meet        api.Vec
	has, less, lessBy bool
	with              api.Vec
	total             uint64
	text              string
	read              api.Vec
	readErr           api.Errno
}

// ask asks all of it, and checks that the arguments stay what they were.
func ask(t *testing.T, a, b api.Vec, id, other api.ID) answers {
	t.Helper()
	wasA, wasB := a, b
	var r answers
	r.get = vec.Get(a, id.Rep)
	r.next, r.nextErr = vec.Next(a, id.Rep)
	r.leq = vec.Leq(a, b)
	r.order = vec.Order(a, b)
	r.join, r.meet = vec.Join(a, b), vec.Meet(a, b)
	r.has = vec.Has(a, id)
	r.with = vec.With(a, id)
	r.less, r.lessBy = vec.Less(id, other), vec.Less(other, id)
	r.total = vec.Total(a)
	r.text = vec.Write(a)
	r.read, r.readErr = vec.Read(r.text)
	if a != wasA || b != wasB {
		t.Fatalf("%v, %v became %v, %v", wasA, wasB, a, b)
	}
	return r
}

// P1, P2: no call panics, whatever it is given, and what it says hangs on its arguments alone, in whatever order things are asked.
func TestCallsHangOnTheirArguments(t *testing.T) {
	var ids []api.ID
	for _, rep := range append(farReps(), 1, 2, 8) {
		for _, seq := range edges() {
			ids = append(ids, api.ID{Rep: rep, Seq: seq})
		}
	}
	vectors := mixed()
	var first []answers
	for i, a := range vectors {
		first = append(first, ask(t, a, vectors[(i*7+3)%len(vectors)], ids[i%len(ids)], ids[(i*5+1)%len(ids)]))
	}
	for i := len(vectors) - 1; i >= 0; i-- {
		if got := ask(t, vectors[i], vectors[(i*7+3)%len(vectors)], ids[i%len(ids)], ids[(i*5+1)%len(ids)]); got != first[i] {
			t.Errorf("%v: %v, then %v", vectors[i], first[i], got)
		}
	}
	for _, id := range ids {
		for _, other := range ids {
			ask(t, vectors[len(vectors)-1], vectors[0], id, other)
		}
	}
}

// P1: Read of any bytes ends without a panic, and where it finds a vector, that one is written so.
func TestReadOfAnyBytes(t *testing.T) {
	seed := uint32(1)
	for n := range 20000 {
		b := make([]byte, n%40)
		for i := range b {
			seed = seed*1664525 + 1013904223
			b[i] = "0123456789:: \x00\xff+-"[seed>>8%17]
		}
		v, e := vec.Read(string(b))
		if e == api.OK && vec.Write(v) != string(b) || e != api.OK && (e != api.ErrForm || v != (api.Vec{})) {
			t.Fatalf("Read(%q) = %v, %d", b, v, e)
		}
	}
}
