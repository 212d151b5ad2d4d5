package keep_test

import (
	"bytes"
	"math"
	"slices"
	"testing"

	"wardship/api"
)

// Rule 4: the changes of a Commit are neither changed nor kept, and nothing behind their ends is touched, also where the records are replaced.
func TestArgumentsStay(t *testing.T) {
	for _, full := range []bool{false, true} {
		d := create(t, 8)
		k := open(t, d, nil)
		if full {
			fillUp(t, k, nil)
		}
		text := []byte("abcdefghij")
		l := []api.Put{{Key: 1, Val: text[:3]}, {Key: 2, Val: text[3:3]}, {Key: 3, Val: text[5:9]}, {Key: 4, Val: text, Gone: true}, put(5, "behind")}
		is(t, "Commit", k.Commit(l[:4]), api.OK)
		if string(text) != "abcdefghij" || l[0].Key != 1 || len(l[0].Val) != 3 || !l[3].Gone || len(l[3].Val) != 10 || l[4].Key != 5 || string(l[4].Val) != "behind" {
			t.Errorf("a Commit left %q, %v", text, l)
		}
		want := contents{1: "abc", 2: "", 3: "fghi"}
		clear(text)
		clear(l)
		holds(t, k, want)
		open(t, d, want)
		fillUp(t, k, []api.Put{put(6, "k")})
		is(t, "Commit", k.Commit([]api.Put{put(7, "l")}), api.OK)
		open(t, d, want.after(put(6, "k"), put(7, "l")))
	}
}

// Rule 4: the same bytes may be the value of several keys.
func TestSameValueTwice(t *testing.T) {
	d := create(t, 6)
	k := open(t, d, nil)
	value := []byte("ab")
	is(t, "Commit", k.Commit([]api.Put{{Key: 1, Val: value}, {Key: 2, Val: value}, {Key: 3, Val: value[1:]}}), api.OK)
	value[1] = 'x'
	open(t, d, contents{1: "ab", 2: "ab", 3: "b"})
	holds(t, k, contents{1: "ab", 2: "ab", 3: "b"})
}

// Rule 4: the results of Get and Keys share no memory with the store, or with each other.
func TestResultsShareNothing(t *testing.T) {
	d := create(t, 6)
	k := open(t, d, nil)
	want := contents{1: "abc", 2: "", 3: "defg"}
	is(t, "Commit", k.Commit([]api.Put{put(1, "abc"), put(2, ""), put(3, "defg")}), api.OK)
	again := open(t, d, want)
	for range 2 {
		for key := range want {
			first, _ := k.Get(key)
			second, _ := k.Get(key)
			_ = append(first, bytes.Repeat([]byte("y"), 40)...)
			clear(first)
			if string(second) != want[key] {
				t.Errorf("a change shows in another result: %q", second)
			}
			if value, _ := again.Get(key); len(value) > 0 {
				value[0] = 'z'
			}
		}
		first, second := k.Keys(), k.Keys()
		_ = append(first, 99, 98, 97)
		clear(first)
		if !slices.Equal(second, want.keys()) {
			t.Errorf("a change shows in another result: %d", second)
		}
		holds(t, k, want)
		holds(t, again, want)
	}
	fillUp(t, k, nil)
	is(t, "Commit", k.Commit([]api.Put{gone(9)}), api.OK)
	has(t, d, want.records()...)
}

// Rule 4: a value that was got stays what it is, whatever the key gets later.
func TestValuesStay(t *testing.T) {
	d := create(t, 6)
	k := open(t, d, nil)
	is(t, "Commit", k.Commit([]api.Put{put(1, "abc")}), api.OK)
	value, _ := k.Get(1)
	keys := k.Keys()
	is(t, "Commit", k.Commit([]api.Put{put(1, "xyz"), put(0, "w")}), api.OK)
	is(t, "Commit", k.Commit([]api.Put{gone(1)}), api.OK)
	if string(value) != "abc" || !slices.Equal(keys, []uint64{1}) {
		t.Errorf("they are now %q, %d", value, keys)
	}
}

// P2: what two stores on two devices answer doesn't hang on each other.
func TestTwoStores(t *testing.T) {
	a, b := create(t, 6), create(t, 8)
	k, m := open(t, a, nil), open(t, b, nil)
	var first, second contents
	for n := range 60 {
		p, q := put(uint64(n%4), noise(uint32(n), n%40)), put(uint64(n%5), noise(uint32(100+n), 40-n%40))
		is(t, "Commit", k.Commit([]api.Put{p}), api.OK)
		is(t, "Commit", m.Commit([]api.Put{q, gone(2)}), api.OK)
		first, second = first.after(p), second.after(q, gone(2))
		holds(t, k, first)
		holds(t, m, second)
	}
	a.Cut(none())
	is(t, "Commit", k.Commit([]api.Put{put(1, "z")}), api.ErrDown)
	is(t, "Commit", m.Commit([]api.Put{put(1, "z")}), api.OK)
	if !k.Broken() || m.Broken() {
		t.Errorf("Broken() = %v, %v", k.Broken(), m.Broken())
	}
}

// Rule 3: a Commit that is refused leaves nothing behind for a later one.
func TestRefusedCommitLeavesNothing(t *testing.T) {
	a, b := create(t, 6), create(t, 6)
	k, m := open(t, a, nil), open(t, b, nil)
	var want contents
	for n := range 60 {
		refused(t, a, k, []api.Put{gone(1), put(0, "x"), put(8, noise(1, 600))}, api.ErrFull, want)
		refused(t, a, k, []api.Put{put(2, "x"), gone(3), put(9, noise(1, 60001))}, api.ErrLong, want)
		refused(t, a, k, slices.Repeat([]api.Put{put(math.MaxUint64, noise(1, 900))}, 75), api.ErrLong, want)
		is(t, "Commit", k.Commit(nil), api.OK)
		p := put(uint64(n%4), noise(uint32(n), n%50))
		is(t, "Commit", k.Commit([]api.Put{p}), api.OK)
		is(t, "Commit", m.Commit([]api.Put{p}), api.OK)
		want = want.after(p)
		holds(t, k, want)
		room(t, k, m.Room())
		if a.Changes() != b.Changes() || !slices.EqualFunc(image(t, a), image(t, b), bytes.Equal) {
			t.Fatal("the devices differ")
		}
	}
}
