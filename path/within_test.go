package path_test

import (
	"strings"
	"testing"
)

// P9.1: paths in others, and paths that only begin alike.
func TestKnownWithin(t *testing.T) {
	for _, c := range []struct {
		s, top string
		want   bool
	}{
		{"/", "/", true}, {"/a", "/", true}, {"/a/b", "/", true}, {"/lost+found", "/", true},
		{"/a", "/a", true}, {"/a/b", "/a", true}, {"/a/b/c", "/a", true}, {"/a/b/c", "/a/b", true}, {"/a/b/c", "/a/b/c", true},
		{"/a~1.1/b", "/a~1.1", true}, {"/lost+found/a~1.1", "/lost+found", true},
		{"/", "/a", false}, {"/a", "/a/b", false}, {"/a/b", "/a/b/c", false},
		{"/ab", "/a", false}, {"/ab/c", "/a", false}, {"/a/bc", "/a/b", false}, {"/a/bc/d", "/a/b", false}, {"/a", "/ab", false}, {"/ab", "/a/b", false}, {"/a/b", "/ab", false},
		{"/a~1.1", "/a", false}, {"/a~1.1/b", "/a", false}, {"/a~1.10", "/a~1.1", false}, {"/a.b", "/a", false}, {"/lost+found", "/lost", false},
		{"/b", "/a", false}, {"/b/a", "/a", false}, {"/A", "/a", false}, {"/a/c", "/a/b", false}, {"/c/b", "/a/b", false}, {"/a/b/c", "/b/c", false}, {"/a/b/c", "/a/c", false},
	} {
		isWithin(t, c.s, c.top, c.want)
	}
}

// P9.1: texts that are no paths are in nothing, and nothing is in them, not even they themselves.
func TestNoPathsAreWithinNothing(t *testing.T) {
	for _, s := range []string{"", "x", "a/b", "/a/", "//", "//a", "/a//b", "/.", "/..", "/a/..", "/a/../a", "/a~1", "/a b", "/\xff", "/abcdefghijklm", "/lost+found~1.1", strings.Repeat("/a", 11), strings.Repeat("/abcdefghijk", 10) + "l", strings.Repeat("x", 1<<20), strings.Repeat("/", 1<<20), strings.Repeat("/a", 1<<20)} {
		isWithin(t, s, s, false)
		for _, p := range []string{"/", "/a", "/a/a", "/a/b", strings.Repeat("/a", 10), strings.Repeat("/abcdefghijk", 10)} {
			isWithin(t, s, p, false)
			isWithin(t, p, s, false)
		}
	}
}

// P9.1: the longest paths and the deepest ones.
func TestWithinTheLongest(t *testing.T) {
	for _, part := range []string{"/a", "/abcdefghijk"} {
		for n := range 13 {
			for m := range 13 {
				s, top := strings.Repeat(part, n), strings.Repeat(part, m)
				if n == 0 {
					s = "/"
				}
				if m == 0 {
					top = "/"
				}
				isWithin(t, s, top, m <= n && n <= 10)
			}
		}
	}
}

// P9.1: each pair of a set of texts is held against the chapter's words told anew.
func TestWithinOfAllPairs(t *testing.T) {
	texts := []string{"", "/"}
	level := []string{""}
	for range 3 {
		var next []string
		for _, s := range level {
			for _, part := range []string{"a", "b", "ab", "a~1.1", "a~1.11", "lost+found", ".", "", "a~"} {
				next = append(next, s+"/"+part)
			}
		}
		texts = append(texts, next...)
		level = next
	}
	for _, s := range texts {
		for _, top := range texts {
			isWithin(t, s, top, expectWithin(s, top))
		}
	}
}
