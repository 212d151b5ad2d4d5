package choose_test

import (
	"slices"
	"testing"

	"wardship/api"
	"wardship/choose"
)

// P14.1 to P14.3: all lists of up to four of some texts, and all that they say of these, are held against the chapter's words told anew.
func TestAllShortLists(t *testing.T) {
	texts := []string{"/", "/a", "/a/b", "/a/b/c", "/a-b", "/ab", "/b", "x", "/a/"}
	level := [][]string{nil}
	for range 5 {
		var longer [][]string
		for _, l := range level {
			asExpected(t, l, texts)
			for _, at := range texts {
				longer = append(longer, append(slices.Clone(l), at))
			}
		}
		level = longer
	}
}

// forest are paths, of which many lie below others or begin alike.
func forest() []string {
	l := []string{"/"}
	level := []string{""}
	for range 3 {
		var next []string
		for _, dir := range level {
			for _, part := range []string{"a", "a-b", "a.b", "ab", "a~1.1", "lost+found"} {
				next = append(next, dir+"/"+part)
			}
		}
		l = append(l, next...)
		level = next
	}
	return append(l, longest(), longest()[:108])
}

// P14.1 to P14.3: long lists by chance, with paths that are far apart, and paths that are near each other.
func TestListsByChance(t *testing.T) {
	all := forest()
	counts := map[api.Errno]int{}
	cleaned := map[int]int{}
	for seed := range dice(1500) {
		d := seed * 77
		pool := d.among(all, 1+d.roll(30))
		if d.roll(8) == 0 {
			pool = append(pool, d.among(noPaths(), 1)...)
		}
		l := d.among(pool, d.roll(25))
		if d.roll(3) == 0 {
			slices.Sort(l)
		}
		if d.roll(4) == 0 {
			clean, _ := expectClean(l)
			l = clean
		}
		asExpected(t, l, append(d.among(all, 10), append(pool, noPaths()...)...))
		counts[choose.Check(l)]++
		clean, err := choose.Clean(l)
		counts[err]++
		cleaned[len(clean)]++
	}
	for _, err := range []api.Errno{api.OK, api.ErrLong, api.ErrPath, api.ErrForm} {
		if counts[err] < 50 {
			t.Errorf("too few of the error %d: %d", err, counts[err])
		}
	}
	for n := range api.MaxChosen + 1 {
		if cleaned[n] < 20 {
			t.Errorf("too few of %d paths: %d", n, cleaned[n])
		}
	}
}

// P14.3: a cleaned list chooses the same paths, each of the forest.
func TestCleanedChoosesTheSame(t *testing.T) {
	all := forest()
	for seed := range dice(300) {
		d := seed * 1001
		l := d.among(all, d.roll(20))
		clean, err := choose.Clean(l)
		if err != api.OK {
			continue
		}
		for _, at := range all {
			if choose.Has(l, at) != choose.Has(clean, at) {
				t.Fatalf("%s isn't chosen alike by %q and %q", at, l, clean)
			}
		}
	}
}

// P14.2: nodes by chance come just if Leads says so, in their order.
func TestOnlyByChance(t *testing.T) {
	all := append(forest(), noPaths()...)
	for seed := range dice(500) {
		d := seed * 31
		l, nodes := d.among(all, d.roll(6)), d.among(all, d.roll(60))
		var want []string
		for _, at := range nodes {
			if expectLeads(l, at) {
				want = append(want, at)
			}
		}
		isPassed(t, l, slices.Values(nodesAt(nodes...)), want...)
	}
}
