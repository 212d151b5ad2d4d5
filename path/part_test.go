package path_test

import (
	"strings"
	"testing"

	"wardship/event"
	"wardship/path"
)

// P9.1: names are parts, without a tag and with one.
func TestNamesAndTags(t *testing.T) {
	for _, name := range names() {
		isPart(t, name, true)
		for _, tag := range tags() {
			isPart(t, name+tag, true)
			if event.Name(name + tag) {
				t.Errorf("%q is a name", name+tag)
			}
		}
		for _, tag := range noTags() {
			isPart(t, name+tag, false)
		}
	}
}

// P9.1: what is no name is no part, without a tag and with one.
func TestNoNames(t *testing.T) {
	for _, s := range noNames() {
		isPart(t, s, false)
		for _, tag := range append(tags(), noTags()...) {
			isPart(t, s+tag, false)
		}
	}
}

// P9.1: a name has 1 to 12 bytes, whatever is behind it.
func TestPartSizes(t *testing.T) {
	for n := range 40 {
		for _, tag := range append(tags(), "") {
			isPart(t, strings.Repeat("a", n)+tag, 1 <= n && n <= 12)
			isPart(t, strings.Repeat(".", n)+tag, 3 <= n && n <= 12)
			isPart(t, strings.Repeat("é", n)+tag, false)
		}
	}
}

// P9.1: the points of a name and those of its tag.
func TestPointsAheadOfTheTag(t *testing.T) {
	for _, s := range []string{"a.b~1.2", "a.b.c~1.2", ".~1.2.", "1.2~3.4", "1~2.3", "...~1.2", ".a~1.2", "a.~1.2", "a1.2", "a.1.2", "0.0~0.0"} {
		isPart(t, s, s != ".~1.2.")
	}
	for _, s := range []string{".~1.2", "..~1.2", "a.b~1", "a.b~", "1.2~3", ".1~.2", "a~.b~1.2", "a.~1"} {
		isPart(t, s, false)
	}
}

// P9.1: lost+found is a part, without a tag, and nothing that only looks like it is.
func TestLostIsPart(t *testing.T) {
	if path.Lost != "lost+found" {
		t.Fatalf("%q", path.Lost)
	}
	isPart(t, "lost+found", true)
	for i := range len(path.Lost) {
		isPart(t, path.Lost[:i]+path.Lost[i+1:], path.Lost[i] == '+')
		isPart(t, path.Lost[:i]+strings.ToUpper(path.Lost[i:i+1])+path.Lost[i+1:], path.Lost[i] == '+')
	}
	for i := range len(path.Lost) + 1 {
		for c := range 256 {
			isPart(t, path.Lost[:i]+string([]byte{byte(c)})+path.Lost[i:], false)
		}
	}
	for _, tag := range append(tags(), noTags()...) {
		isPart(t, path.Lost+tag, false)
	}
	for _, s := range []string{"lost", "found", "lost+", "+found", "lost+found/", "/lost+found", "lost+foundlost+found", "found+lost", "lost found", "lost\u207afound", "LOST+FOUND"} {
		isPart(t, s, s == "lost" || s == "found")
	}
}

// knownParts is one part of each shape.
func knownParts() []string {
	return []string{"a", "abcdefghijkl", "...", "a~0.0", ".a~1.20", "a.b~4294967295.4294967295", "abcdefghijkl~10.9", "lost+found"}
}

// P9.1: each change, each insertion and each loss of one byte of known parts is held against the chapter's words told anew.
func TestPartsOneByteOff(t *testing.T) {
	for _, s := range knownParts() {
		isPart(t, s, true)
		for i := range len(s) + 1 {
			for c := range 256 {
				one := string([]byte{byte(c)})
				longer := s[:i] + one + s[i:]
				isPart(t, longer, expectPart(longer))
				if i < len(s) {
					changed := s[:i] + one + s[i+1:]
					isPart(t, changed, expectPart(changed))
				}
			}
			if i < len(s) {
				shorter := s[:i] + s[i+1:]
				isPart(t, shorter, expectPart(shorter))
			}
		}
	}
}

// P9.1: each character up to U+FFFF and some beyond, in the name, and in either number of a tag.
func TestPartsWithEachCharacter(t *testing.T) {
	chars := []rune{0x10061, 0x1D7CE, 0x1D7D9, 0x1F600, 0x10FFFF, 0x20030}
	for r := rune(128); r <= 0xFFFF; r++ {
		chars = append(chars, r)
	}
	for _, r := range chars {
		c := string(r)
		if path.Part(c) || path.Part("a"+c) || path.Part(c+"~1.1") || path.Part("a~"+c+".1") || path.Part("a~1."+c) || path.Part("a"+c+"1.1") || path.Part("a~1"+c+"1") {
			t.Fatalf("%U is in a part", r)
		}
	}
}

// P9.1: all texts of up to seven bytes of some kinds are held against the chapter's words told anew.
func TestAllShortParts(t *testing.T) {
	for s := range shortTexts("a.~01+", 7) {
		isPart(t, s, expectPart(s))
	}
}

// P9.1: numbers around 2^32, and around the powers of ten, on both sides of the point.
func TestNumbersAroundTheirEnd(t *testing.T) {
	for _, c := range []struct {
		number string
		want   bool
	}{
		{"4294967294", true}, {"4294967295", true}, {"4294967296", false}, {"4294967297", false}, {"4294967305", false}, {"4295000000", false}, {"4300000000", false},
		{"999999999", true}, {"1000000000", true}, {"1000000001", true}, {"3999999999", true}, {"9999999999", false}, {"10000000000", false},
		{"8589934591", false}, {"8589934592", false}, {"18446744073709551616", false}, {"18446744073709551617", false}, {"18446744073709551700", false},
		{"0", true}, {"1", true}, {"9", true}, {"10", true}, {"00", false}, {"01", false}, {"010", false}, {"", false},
	} {
		for _, other := range []string{"0", "1", "4294967295"} {
			isPart(t, "a~"+c.number+"."+other, c.want)
			isPart(t, "a~"+other+"."+c.number, c.want)
		}
	}
}
