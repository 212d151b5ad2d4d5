package path_test

import (
	"slices"
	"strings"
	"testing"

	"wardship/api"
	"wardship/path"
)

// P9.1: the chapter's examples, and other paths.
func TestKnownPaths(t *testing.T) {
	splits(t, "/")
	splits(t, "/a", "a")
	splits(t, "/a/b~1.20", "a", "b~1.20")
	splits(t, "/lost+found", "lost+found")
	splits(t, "/lost+found/a~1.1", "lost+found", "a~1.1")
	splits(t, "/a/b~1.20/lost+found", "a", "b~1.20", "lost+found")
	splits(t, "/a/a/a", "a", "a", "a")
	splits(t, "/.a/..b/...", ".a", "..b", "...")
	splits(t, "/a.txt~0.4294967295", "a.txt~0.4294967295")
	splits(t, "/1/2/3/4/5/6/7/8/9/0", "1", "2", "3", "4", "5", "6", "7", "8", "9", "0")
	for _, s := range []string{
		"", "a", "/a/", "a/", "a/b", "//", "///", "//a", "/a//b", "/a//", "/.", "/..", "/./a", "/../a", "/a/.", "/a/..", "/a/./b", "/a/../b", "/ ", " /a", "/a ", "/ a", "/a\n", "\n/a", "/a\x00", "\x00", "\\a", "/a\\b", "~1.1", "/~1.1", "/a~1", "/a~1.1/", "/a~1/b", "/a~1./b", "/lost+found~1.1", "lost+found", "/lost+found/", "/abcdefghijklm", "/a/abcdefghijklm~1.1", "/é", "/\xff", "\xff/a", "/a/\xc3", "\xc3\xa9", "／a", "/a／b", "\u2044a", "\ufeff/a",
	} {
		refused(t, s)
	}
}

// P9.1: a path has 1 to 10 parts.
func TestDepths(t *testing.T) {
	for n := 1; n <= 40; n++ {
		for _, part := range []string{"a", "...", "b~1.2", "lost+found"} {
			s := strings.Repeat("/"+part, n)
			if n <= 10 {
				splits(t, s, slices.Repeat([]string{part}, n)...)
			} else {
				refused(t, s)
			}
			refused(t, s+"/")
			refused(t, "/"+s)
			refused(t, s[1:])
		}
	}
}

// spread is a path of size bytes, of so many parts: each is the head with 1 to most digits behind it, the first ones with the more.
func spread(size, parts int, head string, most int) string {
	left := size - parts*len("/"+head+"1")
	var b strings.Builder
	for range parts {
		more := min(left, most-1)
		b.WriteString("/" + head + strings.Repeat("1", 1+more))
		left -= more
	}
	return b.String()
}

// P9.1: a path has at most 120 bytes, however many parts it has.
func TestSizes(t *testing.T) {
	for _, c := range []struct {
		parts int
		head  string
		most  int
	}{
		{4, "abcdefghijkl~4294967295.", 10}, {5, "abcdefghijkl~1.", 10}, {6, "abcdefghijkl~1.", 10}, {7, "abcdef~1.", 10}, {8, "ab~1.", 10}, {9, "a~1.", 10}, {10, "", 12}, {10, "a~1.", 10}, {11, "", 12}, {11, "a~1.", 9},
	} {
		for size := 112; size <= 126; size++ {
			s := spread(size, c.parts, c.head, c.most)
			if len(s) != size {
				t.Fatalf("%q has %d bytes, not %d", s, len(s), size)
			}
			if size <= 120 && c.parts <= 10 {
				splits(t, s, strings.Split(s[1:], "/")...)
			} else {
				refused(t, s)
			}
		}
	}
	longest := strings.Repeat("/abcdefghijk", 10)
	splits(t, longest, slices.Repeat([]string{"abcdefghijk"}, 10)...)
	refused(t, longest+"l")
	refused(t, "/l"+longest[1:])
	refused(t, longest[:12]+"l"+longest[12:])
	refused(t, longest+"/")
}

// P9.1: a path of 120 bytes, and of 121, whose parts are fewer than ten.
func TestLongTags(t *testing.T) {
	part := "abcdefghijkl~4294967295.4294967295"
	three := strings.Repeat("/"+part, 3)
	splits(t, three, part, part, part)
	splits(t, three+"/abcdefghij~1.1", part, part, part, "abcdefghij~1.1")
	refused(t, three+"/abcdefghijk~1.1")
	refused(t, three+"/abcdefghij~1.10")
	refused(t, three+"/abcdefghij~10.1")
	refused(t, three+"/"+part)
	splits(t, three+"/abcdefghijkl", part, part, part, "abcdefghijkl")
	splits(t, three+"/abcdefghijkl/a", part, part, part, "abcdefghijkl", "a")
	splits(t, three+"/abcdefghijk/ab", part, part, part, "abcdefghijk", "ab")
	refused(t, three+"/abcdefghijkl/ab")
	refused(t, three+"/a/a/a/a/a/a/a/a")
	splits(t, three+"/a/a/a/a/a/a/a", part, part, part, "a", "a", "a", "a", "a", "a", "a")
}

// P9.1: one text at each place among the parts of a path of each depth: the path is one if the text is a part.
func TestEachPlace(t *testing.T) {
	var texts []string
	texts = append(texts, names()...)
	texts = append(texts, noNames()...)
	texts = append(texts, "lost+found", "lost+found~1.1", "lost+foun", "lost+foundd", "lost-found")
	for _, tag := range append(tags(), noTags()...) {
		texts = append(texts, "a"+tag)
	}
	for depth := 1; depth <= 10; depth++ {
		for at := range depth {
			for _, s := range texts {
				parts := slices.Repeat([]string{"b"}, depth)
				parts[at] = s
				asExpected(t, "/"+strings.Join(parts, "/"))
			}
		}
	}
	parts := slices.Repeat([]string{"b"}, 10)
	for at := range parts {
		parts[at] = "lost+found"
		splits(t, "/"+strings.Join(parts, "/"), parts...)
		parts[at] = "b"
	}
}

// P9.1: each change, each insertion and each loss of one byte of known paths is held against the chapter's words told anew.
func TestPathsOneByteOff(t *testing.T) {
	for _, s := range []string{"/", "/a", "/a/b~1.20", "/lost+found/a~1.1", "/.a/b.c", strings.Repeat("/a", 10), strings.Repeat("/abcdefghijk", 10), strings.Repeat("/abcdefghijkl~1.10", 6) + "/abcdefghijk"} {
		if _, err := expectSplit(s); err != api.OK {
			t.Fatalf("%q is no path", s)
		}
		asExpected(t, s)
		for i := range len(s) + 1 {
			for _, c := range []byte("/.~0a+-\x00 \xc3\xa9") {
				asExpected(t, s[:i]+string([]byte{c})+s[i:])
				if i < len(s) {
					asExpected(t, s[:i]+string([]byte{c})+s[i+1:])
				}
			}
			asExpected(t, s[:i])
			asExpected(t, s[i:])
			if i < len(s) {
				asExpected(t, s[:i]+s[i+1:])
			}
		}
	}
}

// P9.1: all texts of up to seven bytes of some kinds are held against the chapter's words told anew.
func TestAllShortPaths(t *testing.T) {
	for s := range shortTexts("/a.~1", 7) {
		asExpected(t, s)
	}
}

// P9.1: two faults at once are ErrPath too, and a fault at the end shows nothing of the parts ahead of it.
func TestNothingBesideAnError(t *testing.T) {
	for _, s := range []string{"/a/b/c/", "/a/b/c/..", strings.Repeat("/a", 10) + "/..", strings.Repeat("/a", 11) + "/", strings.Repeat("/abcdefghijklm", 11), strings.Repeat("//", 100), "a" + strings.Repeat("/a", 10)} {
		if l, err := path.Split(s); l != nil || err != api.ErrPath {
			t.Errorf("Split(%q) = %q, %d", s, l, err)
		}
	}
}
