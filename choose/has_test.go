package choose_test

import (
	"strings"
	"testing"
)

// P14.2: all is chosen by the empty list, also what is no path.
func TestNothingIsChosen(t *testing.T) {
	for _, at := range append(noPaths(), "/", "/a", "/a/b/c", "/lost+found", longest(), strings.Repeat("x", 1000)) {
		tells(t, nil, at, true, true)
		tells(t, []string{}, at, true, true)
		tells(t, first(3)[:0], at, true, true)
	}
}

// P14.2: paths that are equal, below, above, beside.
func TestHasAndLeads(t *testing.T) {
	l := []string{"/a/b", "/d", "/e/f/g", "/lost+found/x~1.1"}
	for _, c := range []struct {
		at         string
		has, leads bool
	}{
		{"/a/b", true, true}, {"/d", true, true}, {"/e/f/g", true, true}, {"/lost+found/x~1.1", true, true},
		{"/a/b/c", true, true}, {"/a/b/c/d/e", true, true}, {"/d/a", true, true}, {"/d/lost+found", true, true}, {"/e/f/g/h", true, true}, {"/lost+found/x~1.1/y", true, true},
		{"/", false, true}, {"/a", false, true}, {"/e", false, true}, {"/e/f", false, true}, {"/lost+found", false, true},
		{"/b", false, false}, {"/c", false, false}, {"/a/c", false, false}, {"/a/a", false, false}, {"/a/c/b", false, false}, {"/e/g", false, false}, {"/e/f/h", false, false}, {"/f", false, false}, {"/f/g", false, false},
		{"/lost+found/x~1.2", false, false}, {"/lost+found/x~1.10", false, false}, {"/A/b", false, false}, {"/D", false, false},
		{"/a/bc", false, false}, {"/a/b-c", false, false}, {"/a/b~1.1", false, false}, {"/ab", false, false}, {"/a-b", false, false}, {"/dd", false, false}, {"/d.", false, false}, {"/e/f/gg", false, false}, {"/e/ff", false, false}, {"/ee", false, false},
		{"/b/a", false, false}, {"/g/f/e", false, false}, {"/x/a/b", false, false}, {longest(), false, false},
	} {
		tells(t, l, c.at, c.has, c.leads)
	}
}

// P14.2: the chosen root has all, and only that leads to it.
func TestRootIsChosen(t *testing.T) {
	for _, l := range [][]string{{"/"}, {"/", "/a"}, {"/b", "/"}, {"x", "/"}} {
		for _, at := range []string{"/", "/a", "/a/b/c", "/lost+found", longest()} {
			tells(t, l, at, true, true)
		}
		for _, at := range noPaths() {
			tells(t, l, at, false, false)
		}
	}
	for _, at := range []string{"/a", "/a/b", "/lost+found", longest()} {
		tells(t, []string{at}, "/", false, true)
	}
}

// P14.2: any list counts, be it a choice or not.
func TestListsThatAreNoChoices(t *testing.T) {
	twice := []string{"/b/c", "/b/c"}
	falling := []string{"/z", "/b/c", "/a"}
	below := []string{"/b", "/b/c/d", "/b/c"}
	for _, l := range [][]string{twice, falling, append(many(20), "/b/c"), append([]string{"/b/c"}, many(20)...)} {
		tells(t, l, "/", false, true)
		tells(t, l, "/b", false, true)
		tells(t, l, "/b/c", true, true)
		tells(t, l, "/b/c/d", true, true)
		tells(t, l, "/b/d", false, false)
		tells(t, l, "/bc", false, false)
	}
	for _, at := range []string{"/b", "/b/a", "/b/c", "/b/c/d", "/b/c/d/e"} {
		tells(t, below, at, true, true)
	}
	tells(t, below, "/", false, true)
	tells(t, below, "/c", false, false)
}

// P14.2: texts that are no paths lie nowhere, not even where they are in the list, and nothing lies below them.
func TestTextsThatAreNoPaths(t *testing.T) {
	for _, at := range noPaths() {
		for _, l := range [][]string{{at}, {at, at}, {"/a", at}, {"/", at}, {at, longest()}, first(8), noPaths()} {
			tells(t, l, at, false, false)
		}
		for _, other := range []string{"/", "/a", "/a/b", "/lost+found", longest()} {
			tells(t, []string{at}, other, false, false)
			tells(t, noPaths(), other, false, false)
		}
		for _, l := range [][]string{{at, "/a/b"}, {"/a/b", at}, {at, "/a/b", at}} {
			tells(t, l, "/a/b", true, true)
			tells(t, l, "/a/b/c", true, true)
			tells(t, l, "/a", false, true)
			tells(t, l, "/", false, true)
			tells(t, l, "/c", false, false)
		}
	}
}

// P14.2: the longest paths, and those that would be longer.
func TestLongestPaths(t *testing.T) {
	for n := 1; n <= 10; n++ {
		top := strings.Repeat("/abcdefghijk", n)
		tells(t, []string{top}, longest(), true, true)
		tells(t, []string{longest()}, top, n == 10, true)
		tells(t, []string{top}, longest()+"/a", false, false)
		tells(t, []string{longest() + "/a"}, top, false, false)
		tells(t, []string{longest() + "l"}, top, false, false)
	}
}
