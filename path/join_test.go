package path_test

import (
	"slices"
	"strings"
	"testing"

	"wardship/api"
	"wardship/path"
)

// joins checks what Join says.
func joins(t *testing.T, want string, l ...string) {
	t.Helper()
	if got := path.Join(l...); got != want {
		t.Errorf("Join(%.200q) = %.200q", l, got)
	}
}

// P9.1: no parts, one, many, and more than a path may have.
func TestKnownJoins(t *testing.T) {
	joins(t, "/")
	joins(t, "/", []string{}...)
	joins(t, "/a", "a")
	joins(t, "/a/b", "a", "b")
	joins(t, "/a/b~1.20", "a", "b~1.20")
	joins(t, "/lost+found/a~1.1", "lost+found", "a~1.1")
	joins(t, "/b/a/a", "b", "a", "a")
	for n := 1; n <= 40; n++ {
		joins(t, strings.Repeat("/abcdefghijkl", n), slices.Repeat([]string{"abcdefghijkl"}, n)...)
	}
	joins(t, strings.Repeat("/a", 1<<20), slices.Repeat([]string{"a"}, 1<<20)...)
}

// P9.1: what is no part is joined as it is.
func TestJoinsOfNoParts(t *testing.T) {
	joins(t, "/", "")
	joins(t, "//", "", "")
	joins(t, "//a", "", "a")
	joins(t, "/a/", "a", "")
	joins(t, "/a//b", "a", "", "b")
	joins(t, "//", "/")
	joins(t, "///", "/", "")
	joins(t, "//a/b/", "/a", "b/")
	joins(t, "/./..", ".", "..")
	joins(t, "/a/../b", "a", "..", "b")
	joins(t, "/\xff/\x00/ ", "\xff", "\x00", " ")
	for _, s := range noNames() {
		joins(t, "/"+s, s)
		joins(t, "/a/"+s+"/b", "a", s, "b")
	}
	long := strings.Repeat("x", 1<<20)
	joins(t, "/"+long+"/"+long, long, long)
}

// P9.2: joined parts are split again; where they are too many or too long it is ErrPath.
func TestJoinedPartsAreSplit(t *testing.T) {
	parts := append(names(), "lost+found")
	for i, name := range names() {
		parts = append(parts, name+tags()[i%len(tags())])
	}
	for n := range 15 {
		for at := range 2000 {
			l := make([]string, n)
			for i := range l {
				l[i] = parts[(at*(i+1)+at/len(parts)*i*i)%len(parts)]
			}
			joined := path.Join(l...)
			if n <= 10 && len(joined) <= 120 {
				splits(t, joined, l...)
			} else {
				refused(t, joined)
			}
		}
	}
}

// P9.2: the same for all lists of up to three of all parts that are known, and for each list that has a text that is none.
func TestShortListsAreSplit(t *testing.T) {
	var parts []string
	for _, name := range []string{"a", "...", "abcdefghijkl"} {
		parts = append(parts, name)
		for _, tag := range tags() {
			parts = append(parts, name+tag)
		}
	}
	parts = append(parts, "lost+found")
	for _, a := range parts {
		splits(t, path.Join(a), a)
		for _, b := range parts {
			splits(t, path.Join(a, b), a, b)
			for _, c := range parts {
				splits(t, path.Join(a, b, c), a, b, c)
			}
		}
		for _, s := range noNames() {
			refused(t, path.Join(a, s))
			refused(t, path.Join(s, a))
			refused(t, path.Join(a, s, a))
		}
	}
	splits(t, path.Join())
}

// P9.2: the parts of a path make the same path again, so that it has one text only.
func TestSplitPathsAreJoined(t *testing.T) {
	paths := 0
	for s := range shortTexts("/a.~1", 7) {
		if l, err := path.Split(s); err == api.OK {
			joins(t, s, l...)
			paths++
		}
	}
	if paths < 1000 {
		t.Errorf("%d paths only", paths)
	}
}
