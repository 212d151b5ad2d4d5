package event_test

import (
	"slices"
	"strings"
	"testing"

	"wardship/api"
	"wardship/event"
)

// same tells whether two events are equal, field by field, told anew.
func same(a, b api.Event) bool {
	if len(a.Gone) != len(b.Gone) || len(a.Base) != len(b.Base) {
		return false
	}
	for i := range a.Gone {
		if a.Gone[i] != b.Gone[i] {
			return false
		}
	}
	for i := range a.Base {
		if a.Base[i] != b.Base[i] {
			return false
		}
	}
	return [3]api.ID{a.ID, a.Obj, a.Dir} == [3]api.ID{b.ID, b.Obj, b.Dir} && a.Dep == b.Dep &&
		[3]int{a.Kind, a.Off, a.Ward} == [3]int{b.Kind, b.Off, b.Ward} && [2]string{a.Name, a.Data} == [2]string{b.Name, b.Data}
}

// inside tells whether dep contains x, told anew.
func inside(dep api.Vec, x api.ID) bool {
	for i, n := range dep {
		if x.Rep == i+1 && x.Seq != 0 && x.Seq <= n {
			return true
		}
	}
	return false
}

// rising tells whether a list is in order and contained, told anew: by one number for each.
func rising(dep api.Vec, l []api.ID) bool {
	last := int64(-1)
	for _, x := range l {
		rank := int64(x.Seq)*16 + int64(x.Rep)
		if !inside(dep, x) || rank <= last {
			return false
		}
		last = rank
	}
	return true
}

// expectCheck is what the chapter says of Check(e), told anew: what each field must be for each kind.
func expectCheck(e api.Event) bool {
	rep := e.ID.Rep
	if rep < 1 || rep > 8 || e.ID.Seq < 1 || e.ID.Seq > 1048576 || e.Dep[rep-1] != e.ID.Seq-1 || slices.Max(e.Dep[:]) > 1048576 {
		return false
	}
	has := func(kinds ...int) bool { return slices.Contains(kinds, e.Kind) }
	none := api.ID{}
	switch {
	case e.Kind < 1 || e.Kind > 9,
		has(3, 4, 5, 6, 7) != inside(e.Dep, e.Obj) || !has(3, 4, 5, 6, 7) && e.Obj != none,
		has(1, 2, 7) && e.Dir != none && !inside(e.Dep, e.Dir) || !has(1, 2, 7) && e.Dir != none,
		has(1, 2, 7) && !expectName(e.Name) || !has(1, 2, 7) && e.Name != "",
		!rising(e.Dep, e.Gone) || len(e.Gone) > 8 || !has(6, 7) && len(e.Gone) != 0,
		!rising(e.Dep, e.Base) || len(e.Base) > 8 || has(3, 4) && len(e.Base) > 1 || has(5) && len(e.Base) < 2 || !has(3, 4, 5) && len(e.Base) != 0,
		e.Off < 0 || e.Off > 200 || !has(3, 4) && e.Off != 0,
		len(e.Data) > 200 || has(3) && (e.Data == "" || e.Off+len(e.Data) > 200) || !has(3, 5) && e.Data != "",
		has(8) && (e.Ward < 1 || e.Ward > 4) || !has(8) && e.Ward != 0:
		return false
	}
	return true
}

// mixed calls see with an event of each choice of a few things for each field.
func mixed(see func(api.Event)) {
	ids := []api.ID{{}, id(1, 9), id(1, 10)}
	ways := [][]api.ID{nil, first(1), first(2), {id(2, 1), id(1, 1)}, first(8), first(9), {id(7, 1)}}
	texts := []string{"", "a", strings.Repeat("b", 199), strings.Repeat("c", 200), strings.Repeat("d", 201)}
	for kind := range 11 {
		for i := range 3 * 3 * 3 * 7 * 7 {
			e := blank(kind)
			e.Obj, e.Dir, e.Name = ids[i%3], ids[i/3%3], []string{"", "a", ".."}[i/9%3]
			e.Gone, e.Base = ways[i/27%7], ways[i/27/7]
			for k := range 5 * 5 * 4 {
				e.Off, e.Data, e.Ward = []int{0, 1, 200, 201, -1}[k%5], texts[k/5%5], []int{0, 1, 4, 5}[k/25]
				see(e)
			}
		}
	}
}

// P8.1, P8.3: of each choice of fields, right and wrong ones mixed, Check says what the chapter says, and Write refuses what isn't valid.
func TestCheckOfAllMixtures(t *testing.T) {
	var found [10]int
	mixed(func(e api.Event) {
		want := expectCheck(e)
		if got := event.Check(e); got != want {
			t.Fatalf("Check(%+v) = %v", e, got)
		}
		if want {
			found[e.Kind]++
		}
		if b, err := event.Write(e); want != (err == api.OK) || !want && (len(b) > 0 || err != api.ErrForm) {
			t.Fatalf("Write(%+v) = %v, %d", e, b, err)
		}
	})
	for kind, n := range found {
		if (n == 0) != (kind == 0) {
			t.Errorf("%d events of the kind %d are valid", n, kind)
		}
	}
}

// isSame checks both ways what Same says.
func isSame(t *testing.T, a, b api.Event, want bool) {
	t.Helper()
	if event.Same(a, b) != want || event.Same(b, a) != want {
		t.Errorf("Same(%+v, %+v) isn't %v both ways", a, b, want)
	}
}

// P8.1: events are the same if each field is; valid or not doesn't matter.
func TestSame(t *testing.T) {
	full := api.Event{
		ID: id(2, 5), Dep: known(), Kind: 7, Obj: id(1, 1), Dir: id(1, 2), Name: "n",
		Gone: first(2), Base: first(3), Off: 5, Data: "d", Ward: 2,
	}
	for _, e := range []api.Event{full, {}} {
		again := e
		again.Gone, again.Base = slices.Clone(e.Gone), slices.Clone(e.Base)
		isSame(t, e, again, true)
		for i, change := range []func(*api.Event){
			func(e *api.Event) { e.ID.Rep++ }, func(e *api.Event) { e.ID.Seq++ }, func(e *api.Event) { e.ID.Rep = -1 },
			func(e *api.Event) { e.Kind++ }, func(e *api.Event) { e.Kind = -1 },
			func(e *api.Event) { e.Obj.Rep++ }, func(e *api.Event) { e.Obj.Seq++ }, func(e *api.Event) { e.Dir.Rep++ }, func(e *api.Event) { e.Dir.Seq++ },
			func(e *api.Event) { e.Obj, e.Dir = e.Dir, id(1, 1) },
			func(e *api.Event) { e.Name += "x" }, func(e *api.Event) { e.Name = "N" }, func(e *api.Event) { e.Name, e.Data = e.Name+"\x00", e.Data+"\x00" },
			func(e *api.Event) { e.Gone = first(1) }, func(e *api.Event) { e.Gone = append(slices.Clone(e.Gone), id(9, 9)) },
			func(e *api.Event) { e.Gone = append([]api.ID{{}}, e.Gone...) }, func(e *api.Event) { e.Gone, e.Base = first(3), first(2) },
			func(e *api.Event) { e.Gone = []api.ID{id(2, 1), id(1, 1)} }, func(e *api.Event) { e.Gone = []api.ID{id(1, 1), id(2, 2)} },
			func(e *api.Event) { e.Base = first(4) }, func(e *api.Event) { e.Base = append(slices.Clone(e.Base), api.ID{}) },
			func(e *api.Event) { e.Base = []api.ID{id(1, 1), id(2, 1), id(3, 2)} }, func(e *api.Event) { e.Base = []api.ID{id(4, 1), id(2, 1), id(3, 1)} },
			func(e *api.Event) { e.Off++ }, func(e *api.Event) { e.Off = -e.Off - 1 },
			func(e *api.Event) { e.Data += "x" }, func(e *api.Event) { e.Data = "D" },
			func(e *api.Event) { e.Ward++ }, func(e *api.Event) { e.Ward = -1 },
		} {
			other := e
			change(&other)
			if same(e, other) {
				t.Fatalf("the change %d changes nothing", i)
			}
			isSame(t, e, other, false)
			isSame(t, other, other, true)
		}
		for i := range 8 {
			other := e
			other.Dep[i]++
			isSame(t, e, other, false)
		}
	}
}

// P8.1: nil and empty lists are equal.
func TestSameOfEmptyLists(t *testing.T) {
	for kind := range 11 {
		a, b := blank(kind), blank(kind)
		a.Gone, b.Base = []api.ID{}, make([]api.ID, 0, 3)
		isSame(t, a, b, true)
		b.Base = []api.ID{{}}
		isSame(t, a, b, false)
		isSame(t, blank(kind), b, false)
	}
}
