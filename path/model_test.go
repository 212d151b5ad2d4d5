package path_test

import (
	"iter"
	"regexp"
	"slices"
	"testing"

	"wardship/api"
	"wardship/path"
)

// partForm is what a name looks like, with a tag or without.
var partForm = regexp.MustCompile(`^([a-zA-Z0-9._-]{1,12})(~(0|[1-9][0-9]*)\.(0|[1-9][0-9]*))?\z`)

// expectPart is what the chapter says of Part(s), told anew, by a form and by numbers as texts.
func expectPart(s string) bool {
	if s == "lost+found" {
		return true
	}
	m := partForm.FindStringSubmatch(s)
	if m == nil || m[1] == "." || m[1] == ".." {
		return false
	}
	for _, number := range m[3:] {
		if len(number) > 10 || len(number) == 10 && number > "4294967295" {
			return false
		}
	}
	return true
}

// expectSplit is what the chapter says of Split(s), told anew, byte by byte.
func expectSplit(s string) ([]string, api.Errno) {
	if s == "/" {
		return nil, api.OK
	}
	var parts []string
	for rest := s; rest != ""; {
		end := 1
		for end < len(rest) && rest[end] != '/' {
			end++
		}
		if rest[0] != '/' || !expectPart(rest[1:end]) {
			return nil, api.ErrPath
		}
		parts = append(parts, rest[1:end])
		rest = rest[end:]
	}
	if len(s) > 120 || len(parts) < 1 || len(parts) > 10 {
		return nil, api.ErrPath
	}
	return parts, api.OK
}

// expectWithin is what the chapter says of Within(s, top), told anew.
func expectWithin(s, top string) bool {
	parts, err := expectSplit(s)
	above, other := expectSplit(top)
	if err != api.OK || other != api.OK {
		return false
	}
	for i, part := range above {
		if i >= len(parts) || parts[i] != part {
			return false
		}
	}
	return true
}

// isPart checks what Part says.
func isPart(t *testing.T, s string, want bool) {
	t.Helper()
	if got := path.Part(s); got != want {
		t.Errorf("Part(%q) = %v", s, got)
	}
}

// splits checks what Split says of a path.
func splits(t *testing.T, s string, want ...string) {
	t.Helper()
	if got, err := path.Split(s); !slices.Equal(got, want) || err != api.OK {
		t.Errorf("Split(%q) = %q, %d, not %q", s, got, err, want)
	}
}

// refused checks that Split calls a text no path.
func refused(t *testing.T, s string) {
	t.Helper()
	if got, err := path.Split(s); len(got) != 0 || err != api.ErrPath {
		t.Errorf("Split(%q) = %q, %d", s, got, err)
	}
}

// asExpected holds what Split says of a text against the chapter's words told anew.
func asExpected(t *testing.T, s string) {
	t.Helper()
	if want, err := expectSplit(s); err == api.OK {
		splits(t, s, want...)
	} else {
		refused(t, s)
	}
}

// isWithin checks what Within says.
func isWithin(t *testing.T, s, top string, want bool) {
	t.Helper()
	if got := path.Within(s, top); got != want {
		t.Errorf("Within(%q, %q) = %v", s, top, got)
	}
}

// shortTexts is all texts of at most so many of some letters, the shorter ones first.
func shortTexts(letters string, most int) iter.Seq[string] {
	return func(yield func(string) bool) {
		texts := []string{""}
		for range most + 1 {
			var longer []string
			for _, s := range texts {
				if !yield(s) {
					return
				}
				for _, c := range letters {
					longer = append(longer, s+string(c))
				}
			}
			texts = longer
		}
	}
}

// id is an event's number.
func id(rep int, seq uint32) api.ID { return api.ID{Rep: rep, Seq: seq} }

// names is some names of all lengths.
func names() []string {
	return []string{"a", "Z", "0", "_", "-", "ab", ".a", "a.", "..a", "...", "-rf", "a.txt", "1.2", "a.1.2", "lost-found", "lostfound", "bcdefghijkl", "abcdefghijkl", "abcdefgh.4.2", "............"}
}

// noNames is some texts that are neither names nor parts.
func noNames() []string {
	return []string{"", ".", "..", "abcdefghijklm", ".............", " ", "a b", " a", "a ", "+", "a+b", "a\x00", "\x00", "a\n", "a,b", "a:b", "a\\b", "@", "[", "`", "{", "é", "日", "\xff", "\xc3", "a\xc3", "\xed\xa0\x80", "\ufffd", "a\u0301", "\u0661", "１", "ａ", "~", "a~", "~1.1", "%41"}
}

// tags is the texts of some tags, with the least and the greatest numbers.
func tags() []string {
	return []string{"~0.0", "~0.1", "~1.0", "~1.1", "~1.20", "~8.1048576", "~9.10", "~10.9", "~4294967295.0", "~0.4294967295", "~4294967295.4294967295", "~999999999.1000000000"}
}

// noTags is some texts that may not stand behind a name.
func noTags() []string {
	return []string{
		"~", "~.", "~1", "~1.", "~.1", "~1.1.", "~.1.1", "~1..1", "~1.1.1", "~1,1", "~1-1", "~1/1", "~1.1~", "~~1.1", "~1~1", "~1.1~1.1", "~1.1~2", "~1~1.1",
		"~01.1", "~1.01", "~00.1", "~1.00", "~000.0", "~0.00", "~0000000001.1", "~1.00000000000000000001", "~04294967295.1",
		"~+1.1", "~1.+1", "~-1.1", "~1.-1", "~-0.1", "~1.-0", "~+0.0", "~--1.1", "~1.1-", "~1.1+",
		"~4294967296.1", "~1.4294967296", "~4294967300.1", "~5000000000.1", "~1.9999999999", "~10000000000.1", "~1.42949672950", "~18446744073709551615.1", "~18446744073709551616.1", "~1.18446744073709551617", "~99999999999999999999999999.1", "~1.99999999999999999999999999",
		"~a.1", "~1.a", "~1a.1", "~1.1a", "~a1.1", "~1.a1", "~0x1.1", "~1.0x1", "~0b1.1", "~0o1.1", "~1_0.1", "~1.1_0", "~1e1.1", "~1.1e1", "~ 1.1", "~1. 1", "~1 .1", "~1.1 ", "~1.1\n", "~1.1\x00",
		"~\u0661.1", "~1.\u0661", "~１.1", "~1.１", "~\xff.1", "~1.\xff", "~1\xff.1", "~1．1",
		"+1.1", "\x7e", "～1.1", "^1.1", "~lost+found", "~a",
	}
}
