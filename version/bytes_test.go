package version_test

import (
	"math"
	"strings"
	"testing"

	"wardship/api"
)

// zeros are so many bytes 0.
func zeros(n int) string { return strings.Repeat("\x00", n) }

// letters are so many bytes, each another one than those beside it.
func letters(n int) string {
	b := make([]byte, n)
	for i := range b {
		b[i] = 'a' + byte(i%23)
	}
	return string(b)
}

// P11.1: the chapter's example, and bytes in the place of others at each edge.
func TestKnownPatches(t *testing.T) {
	for _, x := range []struct {
		data string
		off  int
		s    string
		want string
	}{
		{"abc", 5, "x", "abc\x00\x00x"},
		{"abc", 0, "x", "xbc"},
		{"abc", 1, "x", "axc"},
		{"abc", 2, "x", "abx"},
		{"abc", 3, "x", "abcx"},
		{"abc", 4, "x", "abc\x00x"},
		{"abc", 1, "xy", "axy"},
		{"abc", 1, "xyz", "axyz"},
		{"abc", 0, "xyz", "xyz"},
		{"abc", 0, "vwxyz", "vwxyz"},
		{"", 0, "x", "x"},
		{"", 2, "x", "\x00\x00x"},
		{"\xff\x00\xc3", 1, "\xa9\x00", "\xff\xa9\x00"},
		{"é", 1, "\xff", "\xc3\xff"},
		{"\x00\x00", 3, "\x00", "\x00\x00\x00\x00"},
		{"a\x00b\x00", 1, "\x00\xfe", "a\x00\xfe\x00"},
	} {
		isPatch(t, x.data, x.off, x.s, x.want, api.OK)
	}
}

// P11.1: with nothing in their place bytes stay, but zeros are inserted where they end before the offset.
func TestPatchOfNothing(t *testing.T) {
	isPatch(t, "", 0, "", "", api.OK)
	isPatch(t, "abc", 0, "", "abc", api.OK)
	isPatch(t, "abc", 1, "", "abc", api.OK)
	isPatch(t, "abc", 3, "", "abc", api.OK)
	isPatch(t, "abc", 4, "", "abc\x00", api.OK)
	isPatch(t, "", 200, "", zeros(200), api.OK)
	isPatch(t, "abc", 200, "", "abc"+zeros(197), api.OK)
	isPatch(t, "abc", 201, "", "", api.ErrLong)
	isPatch(t, "abc", -1, "", "", api.ErrLong)
}

// P11.1: the most bytes that there may be, before and after, and one more.
func TestPatchesAtMaxData(t *testing.T) {
	full, more := letters(200), letters(201)
	isPatch(t, full, 0, "", full, api.OK)
	isPatch(t, full, 199, "X", full[:199]+"X", api.OK)
	isPatch(t, full, 200, "", full, api.OK)
	isPatch(t, full, 200, "X", "", api.ErrLong)
	isPatch(t, full, 199, "XY", "", api.ErrLong)
	isPatch(t, full, 0, zeros(200), zeros(200), api.OK)
	isPatch(t, full, 0, zeros(201), "", api.ErrLong)
	isPatch(t, full, 1, zeros(200), "", api.ErrLong)
	isPatch(t, "", 0, full, full, api.OK)
	isPatch(t, "", 0, more, "", api.ErrLong)
	isPatch(t, "", 1, full, "", api.ErrLong)
	isPatch(t, "", 199, "X", zeros(199)+"X", api.OK)
	isPatch(t, "abc", 198, "XY", "abc"+zeros(195)+"XY", api.OK)
	isPatch(t, "abc", 199, "XY", "", api.ErrLong)
	isPatch(t, "abc", 200, "X", "", api.ErrLong)
	for _, off := range []int{0, 1, 100, 199, 200} {
		isPatch(t, more, off, "", "", api.ErrLong)
		isPatch(t, letters(5000), off, "", "", api.ErrLong)
	}
	isPatch(t, more, 0, "X", "", api.ErrLong)
	isPatch(t, more, 5, "XYZ", "", api.ErrLong)
}

// P11.1: offsets below 0, and ones with which the sum goes beyond all numbers.
func TestPatchesFarOff(t *testing.T) {
	far := []int{
		-1, -2, -3, -4, -100, -199, -200, -201, math.MinInt32, math.MinInt, math.MinInt + 1, -math.MaxInt,
		201, 202, 255, 256, 65536, math.MaxInt32, math.MaxInt32 + 1, math.MaxUint32, math.MaxUint32 + 1, math.MaxInt - 200, math.MaxInt - 3, math.MaxInt - 2, math.MaxInt - 1, math.MaxInt,
	}
	for _, off := range far {
		for _, s := range []string{"", "x", "xyz", letters(199), letters(200), letters(201), letters(1000)} {
			for _, data := range []string{"", "abc", letters(200), letters(201)} {
				isPatch(t, data, off, s, "", api.ErrLong)
			}
		}
	}
}

// P11.1: all offsets and lengths near each edge, held against the chapter's words told anew.
func TestAllPatches(t *testing.T) {
	lengths := []int{0, 1, 2, 3, 4, 5, 99, 100, 101, 198, 199, 200, 201, 202, 400}
	for _, n := range lengths {
		data := letters(n)
		for _, m := range lengths {
			s := strings.ToUpper(letters(m))
			for off := -3; off < 206; off++ {
				want, e := expectPatch(data, off, s)
				isPatch(t, data, off, s, want, e)
			}
		}
	}
}

// P11.1: bytes by chance, all kinds among them, held against the chapter's words told anew.
func TestPatchesByChance(t *testing.T) {
	for seed := range dice(20000) {
		d := seed
		most := []int{8, 64, 202}[d.roll(3)]
		data, off, s := d.bytes(most), d.roll(most+4)-2, d.bytes(most)
		want, e := expectPatch(data, off, s)
		isPatch(t, data, off, s, want, e)
		n := d.roll(most+4) - 2
		want, e = expectCut(data, n)
		isCut(t, data, n, want, e)
	}
}

// P11.1: the first bytes, or all of them and zeros.
func TestKnownCuts(t *testing.T) {
	for _, x := range []struct {
		data string
		n    int
		want string
	}{
		{"abc", 0, ""},
		{"abc", 1, "a"},
		{"abc", 2, "ab"},
		{"abc", 3, "abc"},
		{"abc", 4, "abc\x00"},
		{"abc", 5, "abc\x00\x00"},
		{"", 0, ""},
		{"", 1, "\x00"},
		{"", 200, zeros(200)},
		{"é", 1, "\xc3"},
		{"\x00a\xff", 2, "\x00a"},
		{"\x00\x00", 1, "\x00"},
		{"\xff", 3, "\xff\x00\x00"},
		{"abc", 199, "abc" + zeros(196)},
		{"abc", 200, "abc" + zeros(197)},
	} {
		isCut(t, x.data, x.n, x.want, api.OK)
	}
}

// P11.1: lengths that may not be; data of any length are cut.
func TestCutsAtTheEdges(t *testing.T) {
	for _, n := range []int{-1, -2, -200, math.MinInt32, math.MinInt, 201, 202, 256, 1000, math.MaxInt32, math.MaxUint32, math.MaxInt} {
		for _, data := range []string{"", "abc", letters(200), letters(201), letters(1000)} {
			isCut(t, data, n, "", api.ErrLong)
		}
	}
	for _, length := range []int{0, 1, 3, 199, 200, 201, 202, 1000} {
		data := letters(length)
		for n := range 201 {
			want, e := expectCut(data, n)
			isCut(t, data, n, want, e)
			if len(want) != n || e != api.OK {
				t.Fatalf("%d bytes of %q expected, not %d", len(want), data, n)
			}
		}
	}
	isCut(t, letters(201), 200, letters(200), api.OK)
	isCut(t, letters(1000), 199, letters(199), api.OK)
}
