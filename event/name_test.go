package event_test

import (
	"slices"
	"strings"
	"testing"

	"wardship/event"
)

// letters is all bytes that a name may have, written out.
const letters = "abcdefghijklmnopqrstuvwxyzABCDEFGHIJKLMNOPQRSTUVWXYZ0123456789._-"

// isName checks what Name says.
func isName(t *testing.T, s string, want bool) {
	t.Helper()
	if got := event.Name(s); got != want {
		t.Errorf("Name(%q) = %v", s, got)
	}
}

// P8.1: a name has 1 to 12 bytes.
func TestNameSizes(t *testing.T) {
	for n := range 40 {
		isName(t, strings.Repeat("a", n), 1 <= n && n <= 12)
		isName(t, strings.Repeat(".", n), 3 <= n && n <= 12)
		isName(t, strings.Repeat("é", n), false)
	}
	isName(t, strings.Repeat("a", 1<<20), false)
}

// P8.1: texts that are names, and ones that aren't.
func TestKnownNames(t *testing.T) {
	for _, s := range []string{
		"a", "z", "A", "Z", "0", "9", "_", "-", "..a", ".a", "a.", "a..", "...", ".-", "-.", "._.", "-rf", "a.txt", "READ_ME-2", "abcdefghijkl", ".bcdefghijkl", "............",
		"lost-found", "0001", "con",
	} {
		isName(t, s, true)
	}
	for _, s := range []string{
		"", ".", "..", "abcdefghijklm", ".............", "/", "a/b", "/a", "a/", " ", " a", "a ", "a b", "a~1.1", "~", "lost+found", "+", "a\x00", "\x00", "a\n", "a,b", "a:b", "@a", "a[", "`", "{",
	} {
		isName(t, s, false)
	}
}

// P8.1: each byte alone, first, in the middle and last.
func TestNameOfEachByte(t *testing.T) {
	for i := range 256 {
		s := string([]byte{byte(i)})
		want := strings.Contains(letters, s)
		isName(t, s, want && s != ".")
		for _, text := range []string{s + "ab", "a" + s + "b", "ab" + s, "abcdefghijk" + s, s + s + s} {
			isName(t, text, want)
		}
	}
}

// P8.1: each character up to U+FFFF and some beyond, also those whose lowest byte is that of a letter, and those that look like one.
func TestNameOfEachCharacter(t *testing.T) {
	chars := []rune{0x10061, 0x1D41A, 0x1F600, 0x10FFFF, 0x20041}
	for r := rune(128); r <= 0xFFFF; r++ {
		chars = append(chars, r)
	}
	for _, r := range chars {
		if s := string(r); event.Name(s) || event.Name("a"+s) || event.Name(s+"a") {
			t.Fatalf("%U is in a name", r)
		}
	}
}

// P8.1: texts that are no UTF-8, whether in the first bytes of a character, in later ones, or cut.
func TestNameOfNoText(t *testing.T) {
	for _, s := range []string{
		"\x80", "\xbf", "\xc3", "\xc3a", "a\xc3", "\xc3\xa9", "\xc0\xaf", "\xc1\xa1", "\xe2\x82", "\xed\xa0\x80", "\xef\xbf\xbd", "\xf0\x9f\x98", "\xf8", "\xfe", "\xff", "a\xffb", "\xff\xfe\xff",
	} {
		isName(t, s, false)
	}
}

// P8.1: all texts of up to four bytes of some kinds are held against the chapter's words told anew.
func TestNameOfAllShortTexts(t *testing.T) {
	level := []string{""}
	for range 5 {
		var next []string
		for _, s := range level {
			isName(t, s, expectName(s))
			for _, c := range []byte("a.Z9-_/~ \x00\xc3\xa9\x7f") {
				next = append(next, s+string([]byte{c}))
			}
		}
		level = next
	}
}

// expectName is what the chapter says of Name(s), told anew, byte by byte.
func expectName(s string) bool {
	if slices.Contains([]string{"", ".", ".."}, s) || len(s) >= 13 {
		return false
	}
	return strings.Trim(s, letters) == "" && !slices.ContainsFunc([]byte(s), func(c byte) bool { return strings.IndexByte(letters, c) < 0 })
}
