package path_test

import (
	"slices"
	"strings"
	"testing"
	"unsafe"

	"wardship/api"
	"wardship/path"
)

// noise is n bytes that a plain rule makes of a seed; those that paths are made of come often.
func noise(seed uint32, n int) string {
	const often = "//a.~10+b"
	b := make([]byte, n)
	for i := range b {
		seed = seed*1664525 + 1013904223
		if seed>>28 == 0 {
			b[i] = byte(seed >> 16)
		} else {
			b[i] = often[seed>>16%uint32(len(often))]
		}
	}
	return string(b)
}

// P1, P2: no call panics, whatever text it is given, and what it says hangs on its arguments alone.
func TestNoise(t *testing.T) {
	for seed := range uint32(100000) {
		s, top := noise(seed, int(seed%43)), "/"+noise(seed+7, int(seed%5))
		for range 2 {
			isPart(t, s, expectPart(s))
			asExpected(t, s)
			asExpected(t, "/"+s)
			isWithin(t, s, top, expectWithin(s, top))
			isWithin(t, top+"/"+s, top, expectWithin(top+"/"+s, top))
			joins(t, "/"+s+"/"+top, s, top)
		}
	}
}

// P1: long texts end at once.
func TestLongTexts(t *testing.T) {
	const n = 1 << 22
	for _, c := range []string{"a", "/", "~", ".", "0", "1", "9", "/a", "~1.1", "a~1.1/", "\x00", "\xff", "é"} {
		s := strings.Repeat(c, n/len(c))
		for _, text := range []string{s, "/" + s, "a" + s, "a~" + s, "a~" + s + ".1", "a~1." + s, "/a~1." + s} {
			isPart(t, text, false)
			refused(t, text)
			isWithin(t, text, "/", false)
			isWithin(t, "/", text, false)
		}
		if got := path.Tag(s, id(1, 2)); got != s+"~1.2" {
			t.Errorf("a tag behind %d bytes", len(s))
		}
		joins(t, "/"+s, s)
	}
}

// sharesMemory tells whether two texts lie in one memory.
func sharesMemory(a, b string) bool {
	if a == "" || b == "" {
		return false
	}
	from, other := uintptr(unsafe.Pointer(unsafe.StringData(a))), uintptr(unsafe.Pointer(unsafe.StringData(b)))
	return from < other+uintptr(len(b)) && other < from+uintptr(len(a))
}

// P2, rule 4: the parts of a path share nothing with its text, nor with those of another answer.
func TestPartsShareNothing(t *testing.T) {
	for _, text := range []string{"/a", "/abcdefghijkl", "/a/b~1.20", "/lost+found/a~1.1", "/a/a", strings.Repeat("/abcdefghijk", 10)} {
		s := strings.Clone(text)
		first, _ := path.Split(s)
		second, _ := path.Split(s)
		want := slices.Clone(second)
		for i, part := range first {
			if sharesMemory(part, s) || sharesMemory(part, second[i]) {
				t.Errorf("%q shares memory with %q or another answer", part, s)
			}
		}
		spoil(first)
		third, _ := path.Split(s)
		if s != text || !slices.Equal(second, want) || !slices.Equal(third, want) {
			t.Errorf("a change of the parts of %q shows in %q, %q", s, second, third)
		}
	}
}

// spoil changes all texts that a slice can reach.
func spoil(l []string) {
	l = l[:cap(l)]
	for i := range l {
		l[i] += "x"
	}
}

// P2, rule 4: what Tag and Join answer shares nothing with what they were given, also where it is nearly the same.
func TestTextsShareNothing(t *testing.T) {
	for _, text := range []string{"a", "abcdefghijkl", "", "/", strings.Repeat("x", 1000)} {
		s := strings.Clone(text)
		tagged, joined, twice := path.Tag(s, id(1, 2)), path.Join(s), path.Join(s, "", s)
		for _, got := range []string{tagged, joined, twice} {
			if sharesMemory(got, s) {
				t.Errorf("%q shares memory with %q", got, s)
			}
		}
		if sharesMemory(tagged, path.Tag(s, id(1, 2))) || s != text {
			t.Errorf("the answers for %q share memory", text)
		}
	}
}

// Rule 4: the parts that are joined stay what they are, and what lies behind the end of their slice is neither read nor written.
func TestJoinChangesNothing(t *testing.T) {
	l := []string{"a", "b~1.2", "..", "", "c"}
	before := slices.Clone(l)
	for n := range len(l) + 1 {
		joins(t, "/"+strings.Join(before[:n], "/"), l[:n]...)
		if !slices.Equal(l, before) {
			t.Fatalf("%q became %q", before, l)
		}
	}
	joined := path.Join(l[:2]...)
	spoil(l)
	if joined != "/a/b~1.2" {
		t.Errorf("a change of the parts shows in %q", joined)
	}
}

// P2: what is asked in between changes no answer.
func TestNothingIsKept(t *testing.T) {
	texts := []string{"/", "/a", "/a/b~1.20", "/a/", "", "/lost+found", strings.Repeat("/a", 10), strings.Repeat("/a", 11)}
	for _, s := range texts {
		for _, other := range texts {
			asExpected(t, s)
			refused(t, other+"//")
			isPart(t, "a~01.1", false)
			isWithin(t, other, s, expectWithin(other, s))
			joins(t, "/"+other, other)
			asExpected(t, s)
			if got := path.Tag(s, api.ID{}); got != s+"~0.0" {
				t.Errorf("Tag(%q) = %q", s, got)
			}
		}
	}
}
