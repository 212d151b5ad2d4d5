package vec_test

import (
	"maps"
	"math"
	"testing"

	"wardship/api"
	"wardship/vec"
)

// contained is the events that a vector of small numbers contains, told one by one.
func contained(v api.Vec) map[api.ID]bool {
	all := map[api.ID]bool{}
	for i, n := range v {
		for seq := uint32(1); seq <= n; seq++ {
			all[api.ID{Rep: i + 1, Seq: seq}] = true
		}
	}
	return all
}

// subset tells whether all events of a are ones of b.
func subset(a, b map[api.ID]bool) bool {
	for id := range a {
		if !b[id] {
			return false
		}
	}
	return true
}

// atMost tells whether each number of a is at most that of b.
func atMost(a, b api.Vec) bool {
	most := 0
	for i := range a {
		if a[i] <= b[i] {
			most++
		}
	}
	return most == len(a)
}

// P6.1: how vectors compare, by the first replica and by the last, at the edges of their numbers too.
func TestOrder(t *testing.T) {
	for _, c := range []struct {
		a, b api.Vec
		want int
	}{
		{api.Vec{2}, api.Vec{1, 1}, 2},
		{api.Vec{}, api.Vec{}, 0},
		{api.Vec{}, api.Vec{1}, -1},
		{api.Vec{}, api.Vec{7: 1}, -1},
		{api.Vec{1}, api.Vec{}, 1},
		{api.Vec{7: 1}, api.Vec{}, 1},
		{api.Vec{1}, api.Vec{7: 1}, 2},
		{api.Vec{7: 1}, api.Vec{1}, 2},
		{api.Vec{1, 2, 3, 4, 5, 6, 7, 8}, api.Vec{1, 2, 3, 4, 5, 6, 7, 8}, 0},
		{api.Vec{1, 2, 3, 4, 5, 6, 7, 8}, api.Vec{1, 2, 3, 4, 5, 6, 7, 9}, -1},
		{api.Vec{2, 2, 3, 4, 5, 6, 7, 8}, api.Vec{1, 2, 3, 4, 5, 6, 7, 8}, 1},
		{api.Vec{2, 2, 3, 4, 5, 6, 7, 8}, api.Vec{1, 2, 3, 4, 5, 6, 7, 9}, 2},
		{api.Vec{1, 2, 3, 4, 5, 6, 7, 9}, api.Vec{2, 2, 3, 4, 5, 6, 7, 8}, 2},
		{api.Vec{1, 2, 3, 4, 5, 6, 7, 8}, api.Vec{2, 3, 4, 5, 6, 7, 8, 9}, -1},
		{api.Vec{2, 3, 4, 5, 6, 7, 8, 9}, api.Vec{2, 3, 4, 5, 6, 7, 8, 8}, 1},
		{api.Vec{math.MaxUint32}, api.Vec{1}, 1},
		{api.Vec{1 << 31}, api.Vec{1<<31 - 1}, 1},
		{api.Vec{7: math.MaxUint32 - 1}, api.Vec{7: math.MaxUint32}, -1},
		{api.Vec{0: math.MaxUint32}, api.Vec{7: math.MaxUint32}, 2},
	} {
		if got := vec.Order(c.a, c.b); got != c.want {
			t.Errorf("Order(%v, %v) = %d, want %d", c.a, c.b, got, c.want)
		}
	}
	if vec.Before != -1 || vec.Same != 0 || vec.After != 1 || vec.Apart != 2 {
		t.Error("the constants")
	}
}

// P6.1: of two vectors that differ at one replica, whichever it is, the one with the lesser number is Before; a second replica the other way round makes them Apart.
func TestOrderByEachReplica(t *testing.T) {
	same := api.Vec{4, 4, 4, 4, 4, 4, 4, 4}
	for i := range same {
		more := same
		more[i] = 5
		compares(t, same, more, vec.Before)
		compares(t, more, same, vec.After)
		for k := range same {
			if k != i {
				other := same
				other[k] = 5
				compares(t, more, other, vec.Apart)
			}
		}
	}
}

// compares checks Order, and Leq both ways.
func compares(t *testing.T, a, b api.Vec, want int) {
	t.Helper()
	if got := vec.Order(a, b); got != want {
		t.Errorf("Order(%v, %v) = %d, want %d", a, b, got, want)
	}
	if got := vec.Leq(a, b); got != (want == vec.Same || want == vec.Before) {
		t.Errorf("Leq(%v, %v) = %v", a, b, got)
	}
	if got := vec.Leq(b, a); got != (want == vec.Same || want == vec.After) {
		t.Errorf("Leq(%v, %v) = %v", b, a, got)
	}
}

// P6.1: Leq and Order of all small vectors say whether the one contains the events of the other.
func TestOrderByEvents(t *testing.T) {
	for _, a := range small(4) {
		for _, b := range small(4) {
			here, there := contained(a), contained(b)
			want := vec.Apart
			switch {
			case maps.Equal(here, there):
				want = vec.Same
			case subset(here, there):
				want = vec.Before
			case subset(there, here):
				want = vec.After
			}
			compares(t, a, b, want)
		}
	}
}

// P6.1: Leq, Join and Meet go number by number, also where numbers are great.
func TestNumberByNumber(t *testing.T) {
	for _, a := range mixed() {
		for _, b := range mixed() {
			var greater, lesser api.Vec
			for i := range a {
				greater[i], lesser[i] = a[i], b[i]
				if a[i] < b[i] {
					greater[i], lesser[i] = b[i], a[i]
				}
			}
			if got := vec.Join(a, b); got != greater {
				t.Fatalf("Join(%v, %v) = %v, want %v", a, b, got, greater)
			}
			if got := vec.Meet(a, b); got != lesser {
				t.Fatalf("Meet(%v, %v) = %v, want %v", a, b, got, lesser)
			}
			if got := vec.Leq(a, b); got != atMost(a, b) {
				t.Fatalf("Leq(%v, %v) = %v", a, b, got)
			}
		}
	}
}

// P6.1: Join has the events of either, Meet those of both; Has, With and Total tell the same events.
func TestEvents(t *testing.T) {
	for _, a := range small(3) {
		here := contained(a)
		if got := vec.Total(a); got != uint64(len(here)) {
			t.Errorf("Total(%v) = %d", a, got)
		}
		for rep := range 10 {
			for seq := range uint32(5) {
				id := api.ID{Rep: rep, Seq: seq}
				if got := vec.Has(a, id); got != here[id] {
					t.Errorf("Has(%v, %v) = %v", a, id, got)
				}
				if rep >= 1 && rep <= 8 {
					want := maps.Clone(here)
					maps.Copy(want, contained(only(rep, seq)))
					if got := vec.With(a, id); !maps.Equal(contained(got), want) {
						t.Errorf("With(%v, %v) = %v", a, id, got)
					}
				}
			}
		}
		for _, b := range small(3) {
			there := contained(b)
			either, both := maps.Clone(here), maps.Clone(here)
			maps.Copy(either, there)
			maps.DeleteFunc(both, func(id api.ID, _ bool) bool { return !there[id] })
			if got := vec.Join(a, b); !maps.Equal(contained(got), either) {
				t.Errorf("Join(%v, %v) = %v", a, b, got)
			}
			if got := vec.Meet(a, b); !maps.Equal(contained(got), both) {
				t.Errorf("Meet(%v, %v) = %v", a, b, got)
			}
		}
	}
}

// P6.3: Join is at least both, and at most each vector that is at least both; Meet is at most both, and at least each that is at most both.
func TestBounds(t *testing.T) {
	set := small(3)
	for _, a := range set {
		for _, b := range set {
			join, meet := vec.Join(a, b), vec.Meet(a, b)
			if !atMost(a, join) || !atMost(b, join) || !atMost(meet, a) || !atMost(meet, b) {
				t.Fatalf("%v, %v: Join %v, Meet %v", a, b, join, meet)
			}
			for _, c := range set {
				if above := atMost(a, c) && atMost(b, c); above != atMost(join, c) || above != vec.Leq(join, c) {
					t.Fatalf("Join(%v, %v) = %v; %v", a, b, join, c)
				}
				if below := atMost(c, a) && atMost(c, b); below != atMost(c, meet) || below != vec.Leq(c, meet) {
					t.Fatalf("Meet(%v, %v) = %v; %v", a, b, meet, c)
				}
			}
		}
	}
}

// The chapter's examples.
func TestExamples(t *testing.T) {
	a, e := vec.Read("1:2")
	b, f := vec.Read("1:1 2:1")
	if a != (api.Vec{2}) || b != (api.Vec{1, 1}) || e != api.OK || f != api.OK {
		t.Fatal(a, e, b, f)
	}
	if got := vec.Order(a, b); got != vec.Apart {
		t.Errorf("Order = %d", got)
	}
	if got := vec.Write(vec.Join(a, b)); got != "1:2 2:1" {
		t.Errorf("Join = %q", got)
	}
	if got := vec.Write(vec.Meet(a, b)); got != "1:1" {
		t.Errorf("Meet = %q", got)
	}
}
