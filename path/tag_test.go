package path_test

import (
	"math"
	"strings"
	"testing"

	"wardship/api"
	"wardship/event"
	"wardship/path"
)

// P9.1: the numbers of a tag, each at its least and its greatest value.
func TestTagOfKnownNumbers(t *testing.T) {
	for _, c := range []struct {
		id   api.ID
		want string
	}{
		{id(0, 0), "~0.0"},
		{id(1, 1), "~1.1"},
		{id(1, 20), "~1.20"},
		{id(3, 7), "~3.7"},
		{id(7, 3), "~7.3"},
		{id(8, 1<<20), "~8.1048576"},
		{id(9, 1<<20+1), "~9.1048577"},
		{id(10, 100), "~10.100"},
		{id(0, math.MaxUint32), "~0.4294967295"},
		{id(math.MaxUint32, 0), "~4294967295.0"},
		{id(math.MaxUint32, math.MaxUint32), "~4294967295.4294967295"},
		{id(math.MaxUint32+1, math.MaxUint32), "~4294967296.4294967295"},
		{id(math.MaxInt, 1), "~9223372036854775807.1"},
		{id(-1, 0), "~-1.0"},
		{id(-8, math.MaxUint32), "~-8.4294967295"},
		{id(math.MinInt32, 5), "~-2147483648.5"},
		{id(math.MinInt, 1), "~-9223372036854775808.1"},
	} {
		for _, name := range append(names(), noNames()...) {
			if got := path.Tag(name, c.id); got != name+c.want {
				t.Errorf("Tag(%q, %v) = %q", name, c.id, got)
			}
		}
	}
}

// P9.1: what is no name comes as it is, also if it is long, has a tag, or is a path.
func TestTagOfNoNames(t *testing.T) {
	for _, s := range []string{"", "/", "a/b", "/a", "lost+found", "a~1.2", "a~", "~", "\x00", "\xff\xfe", "日本", strings.Repeat("x", 1<<20)} {
		if got := path.Tag(s, id(2, 4)); got != s+"~2.4" {
			t.Errorf("a text of %d bytes, %.20q, comes as %.40q", len(s), s, got)
		}
	}
}

// P9.1, P9.2: a name with a tag is a part and no name, if its numbers have at most 32 bits; if they haven't, or the name is none, it is no part either.
func TestTagMakesParts(t *testing.T) {
	for _, rep := range []int{math.MinInt, math.MinInt32, -1, 0, 1, 8, 9, 10, 99, 1 << 20, math.MaxInt32, math.MaxUint32 - 1, math.MaxUint32, math.MaxUint32 + 1, math.MaxInt} {
		for _, seq := range []uint32{0, 1, 9, 10, 1 << 20, 1<<20 + 1, math.MaxInt32, math.MaxUint32 - 1, math.MaxUint32} {
			for _, name := range names() {
				tagged := path.Tag(name, id(rep, seq))
				isPart(t, tagged, 0 <= rep && rep <= math.MaxUint32)
				isPart(t, name, true)
				if event.Name(tagged) {
					t.Errorf("%q is a name", tagged)
				}
			}
			for _, s := range append(noNames(), "lost+found", "a~1.1", "/") {
				tagged := path.Tag(s, id(rep, seq))
				isPart(t, tagged, false)
				if event.Name(tagged) {
					t.Errorf("%q is a name", tagged)
				}
			}
		}
	}
}

// P9.2: unlike names or numbers make unlike parts.
func TestTagsAreUnlike(t *testing.T) {
	type from struct {
		name string
		id   api.ID
	}
	seen := map[string]from{}
	for _, name := range append(names(), "a.1", "a1", "1") {
		for _, rep := range []int{-21, -2, -1, 0, 1, 2, 10, 11, 12, 20, 21, 102, 110, math.MaxUint32, math.MaxUint32 + 1, math.MaxUint32 + 2} {
			for _, seq := range []uint32{0, 1, 2, 10, 11, 12, 20, 21, 102, 110, math.MaxUint32} {
				made := from{name, id(rep, seq)}
				tagged := path.Tag(name, made.id)
				if other, ok := seen[tagged]; ok {
					t.Errorf("%v and %v are both %q", other, made, tagged)
				}
				seen[tagged] = made
			}
		}
	}
}
