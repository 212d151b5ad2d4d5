package choose_test

import (
	"slices"
	"strings"
	"testing"

	"wardship/api"
)

// P14.1: lists that are choices: none, one, as many as there may be.
func TestChoices(t *testing.T) {
	checks(t, api.OK)
	checks(t, api.OK, []string{}...)
	for _, at := range []string{"/", "/a", "/a/b", "/a~1.20/b", "/lost+found", "/lost+found/a~1.1", strings.Repeat("/a", 10), longest()} {
		checks(t, api.OK, at)
	}
	for n := range api.MaxChosen + 1 {
		checks(t, api.OK, first(n)...)
	}
}

// P14.1: paths that begin alike, but don't lie below each other.
func TestChoicesThatBeginAlike(t *testing.T) {
	checks(t, api.OK, "/a", "/a-b")
	checks(t, api.OK, "/a", "/ab")
	checks(t, api.OK, "/a", "/a-b", "/a.b", "/ab", "/a~1.1")
	checks(t, api.OK, "/a-b", "/a.b", "/a/b", "/ab")
	checks(t, api.OK, "/a/b", "/a/b-c", "/a/bc", "/ab/c")
	checks(t, api.OK, "/a~1.1", "/a~1.10", "/a~1.11")
	checks(t, api.OK, "/lost+found", "/lost-found", "/lostfound")
}

// P14.1: too many paths, whatever they are.
func TestTooMany(t *testing.T) {
	checks(t, api.ErrLong, first(api.MaxChosen+1)...)
	for _, at := range append(noPaths(), "/", "/a") {
		checks(t, api.ErrLong, slices.Repeat([]string{at}, api.MaxChosen+1)...)
		checks(t, api.ErrLong, append(first(api.MaxChosen), at)...)
		checks(t, api.ErrLong, append([]string{at}, first(api.MaxChosen)...)...)
	}
	checks(t, api.ErrLong, make([]string, 1<<20)...)
}

// P14.1: a text that is no path, at any place, whether it is greater than the one before it or not.
func TestNoPathAmongPaths(t *testing.T) {
	for _, at := range noPaths() {
		checks(t, api.ErrPath, at)
		checks(t, api.ErrPath, at, at)
		for n := 1; n < api.MaxChosen; n++ {
			for place := range n + 1 {
				checks(t, api.ErrPath, slices.Insert(first(n), place, at)...)
			}
		}
	}
}

// P14.1: paths that are equal.
func TestEqualPaths(t *testing.T) {
	for _, at := range []string{"/", "/a", "/a/b", "/lost+found", longest()} {
		checks(t, api.ErrForm, at, at)
	}
	checks(t, api.ErrForm, "/a", "/a", "/b")
	checks(t, api.ErrForm, "/a", "/b", "/b")
	checks(t, api.ErrForm, "/a", "/b", "/a")
	for n := range api.MaxChosen - 1 {
		for place := range n + 1 {
			checks(t, api.ErrForm, slices.Insert(first(n+1), place, first(n + 1)[place])...)
		}
	}
}

// P14.1: paths that fall.
func TestFallingPaths(t *testing.T) {
	checks(t, api.ErrForm, "/b", "/a")
	checks(t, api.ErrForm, "/a", "/c", "/b")
	checks(t, api.ErrForm, "/b", "/c", "/a")
	checks(t, api.ErrForm, "/ab", "/a")
	checks(t, api.ErrForm, "/ab", "/a-b")
	// By bytes - and . come ahead of /, and capitals ahead of all others.
	checks(t, api.ErrForm, "/a/b", "/a-b")
	checks(t, api.ErrForm, "/a/b", "/a.b")
	checks(t, api.ErrForm, "/a", "/B")
	checks(t, api.ErrForm, "/9", "/10")
	for n := 2; n <= api.MaxChosen; n++ {
		for i := range n - 1 {
			l := first(n)
			l[i], l[i+1] = l[i+1], l[i]
			checks(t, api.ErrForm, l...)
		}
	}
}

// P14.1: a path below the one before it, below one further ahead, below one that comes later.
func TestPathsBelow(t *testing.T) {
	checks(t, api.ErrForm, "/a", "/a/b")
	checks(t, api.ErrForm, "/a", "/a/b/c")
	checks(t, api.ErrForm, "/a", "/b", "/b/c")
	checks(t, api.ErrForm, "/c/d", "/c/d/e", "/f")
	checks(t, api.ErrForm, "/lost+found", "/lost+found/a~1.1")
	checks(t, api.ErrForm, "/abcdefghijk", longest())
	// These rise, as by bytes - and . come ahead of /.
	checks(t, api.ErrForm, "/a", "/a-b", "/a/c")
	checks(t, api.ErrForm, "/a", "/a-b", "/a.b", "/a/c")
	checks(t, api.ErrForm, "/a/b", "/a/b-c", "/a/b.c", "/a/b/c/d", "/z")
	checks(t, api.ErrForm, "/a/b", "/a")
	checks(t, api.ErrForm, "/a/b", "/c", "/a")
}

// P14.1: the root, alone and with others.
func TestRootAmongPaths(t *testing.T) {
	checks(t, api.OK, "/")
	checks(t, api.ErrForm, "/", "/a")
	checks(t, api.ErrForm, "/", "/lost+found")
	checks(t, api.ErrForm, "/a", "/")
	checks(t, api.ErrForm, "/a", "/b", "/")
	checks(t, api.ErrPath, "/", "a")
	checks(t, api.ErrPath, "", "/")
}

// P14.1: the first fault counts, path by path.
func TestFirstFault(t *testing.T) {
	checks(t, api.ErrForm, "/b", "/a", "x")
	checks(t, api.ErrPath, "/b", "x", "/a")
	checks(t, api.ErrPath, "x", "/b", "/a")
	checks(t, api.ErrForm, "/a", "/a", "x")
	checks(t, api.ErrPath, "x", "/a", "/a")
	checks(t, api.ErrForm, "/a", "/a/b", "x")
	checks(t, api.ErrPath, "/a", "x", "/a/b")
	checks(t, api.ErrPath, "/a", "", "/a/b")
	checks(t, api.ErrForm, "/", "/a", "x")
	// The first one lies below one that comes behind the text that is no path.
	checks(t, api.ErrForm, "/a/b", "x", "/a")
	checks(t, api.ErrForm, "/a", "x", "/")
	// It doesn't lie below itself, so only the last one is at fault, too late.
	checks(t, api.ErrPath, "/a", "x", "/a")
	// Nothing lies below a text that is no path.
	checks(t, api.ErrPath, "/a/b", "/a/")
	checks(t, api.ErrPath, "/a//b", "/a")
}
