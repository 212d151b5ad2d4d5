package choose_test

import (
	"slices"
	"strconv"
	"strings"
	"testing"

	"wardship/api"
)

// P14.1: the chapter's example.
func TestCleanExample(t *testing.T) {
	cleans(t, []string{"/b", "/a/c", "/a"}, "/a", "/b")
}

// P14.1: lists of no paths, and lists that are choices, stay what they are.
func TestCleanOfChoices(t *testing.T) {
	cleans(t, nil)
	cleans(t, []string{})
	for _, at := range []string{"/", "/a", "/a/b", "/lost+found", "/lost+found/a~1.1", strings.Repeat("/a", 10), longest()} {
		cleans(t, []string{at}, at)
	}
	for n := range api.MaxChosen + 1 {
		cleans(t, first(n), first(n)...)
	}
}

// P14.1: the same path more than once.
func TestCleanOfEqualPaths(t *testing.T) {
	cleans(t, []string{"/a", "/a"}, "/a")
	cleans(t, []string{"/", "/", "/"}, "/")
	cleans(t, []string{"/b", "/a", "/b", "/a"}, "/a", "/b")
	cleans(t, slices.Repeat([]string{"/a/b"}, 1000), "/a/b")
	for n := range api.MaxChosen + 1 {
		cleans(t, slices.Repeat(first(n), 3), first(n)...)
	}
}

// P14.1: paths in any order.
func TestCleanSorts(t *testing.T) {
	cleans(t, []string{"/c", "/b", "/a"}, "/a", "/b", "/c")
	cleans(t, []string{"/a/b", "/a-b", "/ab", "/a.b"}, "/a-b", "/a.b", "/a/b", "/ab")
	cleans(t, []string{"/a", "/Z", "/9", "/10", "/_", "/lost+found"}, "/10", "/9", "/Z", "/_", "/a", "/lost+found")
	for n := range api.MaxChosen + 1 {
		l := first(n)
		slices.Reverse(l)
		cleans(t, l, first(n)...)
		for i := range n {
			l = append(l[1:], l[0])
			cleans(t, l, first(n)...)
			cleans(t, append(slices.Clone(l), l[i]), first(n)...)
		}
	}
}

// P14.1: paths below others, ahead of them and behind them, at once or further down.
func TestCleanOfPathsBelow(t *testing.T) {
	cleans(t, []string{"/a", "/a/b"}, "/a")
	cleans(t, []string{"/a/b", "/a"}, "/a")
	cleans(t, []string{"/a/b/c/d", "/a"}, "/a")
	cleans(t, []string{"/a", longest(), "/abcdefghijk"}, "/a", "/abcdefghijk")
	cleans(t, []string{"/a/b/c", "/a/b", "/a"}, "/a")
	cleans(t, []string{"/a/b", "/a/b/c", "/a/c"}, "/a/b", "/a/c")
	cleans(t, []string{"/a/c", "/a/b/c", "/b/a", "/a/b", "/b/a/a"}, "/a/b", "/a/c", "/b/a")
	cleans(t, []string{"/lost+found/a~1.1/b", "/lost+found/a~1.1", "/lost+found/b~1.2"}, "/lost+found/a~1.1", "/lost+found/b~1.2")
	cleans(t, []string{"/a/z", "/a-b", "/a-b/c", "/a.b", "/a", "/a/b"}, "/a", "/a-b", "/a.b")
}

// P14.1: all lies below the root.
func TestCleanWithRoot(t *testing.T) {
	for n := range api.MaxChosen + 3 {
		for place := range n + 1 {
			cleans(t, slices.Insert(first(n), place, "/"), "/")
		}
	}
	cleans(t, []string{longest(), "/", "/lost+found", "/"}, "/")
}

// P14.1: paths that begin with the bytes of others, but don't lie below them.
func TestCleanOfPathsThatBeginAlike(t *testing.T) {
	cleans(t, []string{"/ab", "/a-b", "/a"}, "/a", "/a-b", "/ab")
	cleans(t, []string{"/a~1.1", "/a"}, "/a", "/a~1.1")
	cleans(t, []string{"/a~1.10", "/a~1.1/b", "/a~1.1"}, "/a~1.1", "/a~1.10")
	cleans(t, []string{"/a/bc", "/a/b", "/a/b-c", "/a/b/c"}, "/a/b", "/a/b-c", "/a/bc")
	cleans(t, []string{"/ab/c", "/a"}, "/a", "/ab/c")
	cleans(t, []string{"/lost", "/lost+found", "/lost/a"}, "/lost", "/lost+found")
}

// P14.1: a text that is no path is refused, wherever it stands, also among too many paths.
func TestCleanOfNoPaths(t *testing.T) {
	for _, at := range noPaths() {
		refuses(t, api.ErrPath, at)
		refuses(t, api.ErrPath, at, at)
		refuses(t, api.ErrPath, "/", at)
		refuses(t, api.ErrPath, at, "/")
		for _, n := range []int{1, 2, api.MaxChosen, api.MaxChosen + 1, api.MaxChosen + 2} {
			for place := range n + 1 {
				refuses(t, api.ErrPath, slices.Insert(first(n), place, at)...)
			}
		}
		refuses(t, api.ErrPath, slices.Repeat([]string{at}, 20)...)
		refuses(t, api.ErrPath, append(many(100), at)...)
	}
}

// many is n paths, none below another one.
func many(n int) []string {
	var l []string
	for i := range n {
		l = append(l, "/m"+strconv.Itoa(i))
	}
	return l
}

// P14.1: how many paths there may be is asked of what is left of them.
func TestCleanOfManyPaths(t *testing.T) {
	var below []string
	for _, at := range first(api.MaxChosen) {
		for i := range 50 {
			below = append(below, at+"/x", at+"/x"+strconv.Itoa(i), at)
		}
	}
	cleans(t, below, first(api.MaxChosen)...)
	refuses(t, api.ErrLong, append(below, "/new")...)
	refuses(t, api.ErrLong, append([]string{"/0"}, below...)...)
	refuses(t, api.ErrLong, append(below, "/zz")...)
	cleans(t, append(below, "/"), "/")
	cleans(t, slices.Concat(first(7), first(6), first(5), first(8)), first(8)...)
	for n := api.MaxChosen + 1; n < 40; n++ {
		refuses(t, api.ErrLong, many(n)...)
		cleans(t, append(many(n), "/"), "/")
	}
	// Nine that lie in one directory, and that directory.
	var nine []string
	for i := range 9 {
		nine = append(nine, "/d/"+strconv.Itoa(i))
	}
	refuses(t, api.ErrLong, nine...)
	cleans(t, append(nine, "/d"), "/d")
	cleans(t, append(nine, "/d", "/d-e"), "/d", "/d-e")
}
