package vec_test

import (
	"fmt"
	"math"
	"regexp"
	"strconv"
	"strings"
	"testing"

	"wardship/api"
	"wardship/vec"
)

// known is texts and the vectors that are written so.
func known() map[string]api.Vec {
	return map[string]api.Vec{
		"":                                {},
		"1:3 4:20":                        {3, 0, 0, 20},
		"1:1":                             {1},
		"8:1":                             {7: 1},
		"1:9 8:10":                        {0: 9, 7: 10},
		"1:2 2:1":                         {2, 1},
		"7:1 8:1":                         {6: 1, 7: 1},
		"2:1048575":                       {1: 1048575},
		"2:1048576":                       {1: 1048576},
		"2:1048577":                       {1: 1048577},
		"5:4294967295":                    {4: 4294967295},
		"1:1000000000":                    {1000000000},
		"3:30 5:500 6:6":                  {2: 30, 4: 500, 5: 6},
		"1:4294967295 8:1":                {0: 4294967295, 7: 1},
		"1:1 8:4294967295":                {0: 1, 7: 4294967295},
		"2:2147483648 3:10":               {1: 2147483648, 2: 10},
		"2:100 3:2147483647":              {1: 100, 2: 2147483647},
		"1:8 2:7 3:6 4:5 5:4 6:3 7:2 8:1": {8, 7, 6, 5, 4, 3, 2, 1},
		"1:4294967295 2:4294967295 3:4294967295 4:4294967295 5:4294967295 6:4294967295 7:4294967295 8:4294967295": {math.MaxUint32, math.MaxUint32, math.MaxUint32, math.MaxUint32, math.MaxUint32, math.MaxUint32, math.MaxUint32, math.MaxUint32},
	}
}

// shape is what a vector's text looks like, but for the order of the replicas and for numbers that are too great.
func shape() *regexp.Regexp {
	return regexp.MustCompile(`^([1-8]:[1-9][0-9]*( [1-8]:[1-9][0-9]*)*)?$`)
}

// expect is what the chapter says of Read(s), told anew: by the text's shape, the order of its replicas and the size of its numbers.
func expect(form *regexp.Regexp, s string) (api.Vec, api.Errno) {
	if !form.MatchString(s) {
		return api.Vec{}, api.ErrForm
	}
	var v api.Vec
	last := 0
	for _, part := range strings.Fields(s) {
		rep := int(part[0] - '0')
		n, err := strconv.ParseFloat(part[2:], 64)
		if rep <= last || err != nil || n > 4294967295 {
			return api.Vec{}, api.ErrForm
		}
		v[rep-1] = uint32(n)
		last = rep
	}
	return v, api.OK
}

// reads checks what Read says of a text.
func reads(t *testing.T, s string, want api.Vec, wantErr api.Errno) {
	t.Helper()
	if got, e := vec.Read(s); got != want || e != wantErr {
		t.Errorf("Read(%q) = %v, %d, want %v, %d", s, got, e, want, wantErr)
	}
}

// P6.2: the texts of known vectors.
func TestKnownTexts(t *testing.T) {
	for s, v := range known() {
		if got := vec.Write(v); got != s {
			t.Errorf("Write(%v) = %q, want %q", v, got, s)
		}
		reads(t, s, v, api.OK)
	}
}

// P6.2: texts that are written as no vector; no vector stands beside the error.
func TestNoTexts(t *testing.T) {
	for _, s := range []string{
		" ", ":", "1", "1:", ":1", "1 1", "0", "1:1:", ":1:1", "1:1:1", "1::1", "1:1 2", "1 2:1", "1:1 2:", "1:1 :2", "1:12:1",
		"0:1", "9:1", "10:1", "-1:1", "+1:1", "01:1", "001:1", "8:1 9:1", "0:1 1:1", "1:1 9:1", "18446744073709551617:1", "4294967297:1", "257:1", "99999999999999999999999:1", "0:0", "9:0",
		"1:0", "1:00", "1:01", "1:-1", "1:+1", "1:1 2:0", "1:0 2:1", "1:1 2:01", "1:-0", "1:+0", "1:00000000000000000000001",
		"4:1 1:1", "2:1 1:1", "1:1 1:1", "1:1 1:2", "1:2 1:1", "8:1 8:1", "1:1 3:1 2:1", "1:1 2:1 1:1", "1:1 2:1 2:1", "2:1 3:1 1:1",
		" 1:1", "1:1 ", "  1:1", "1:1  ", "1:1  2:1", "1: 1", "1 :1", "1:1 2: 1", "1:1 2 :1", " 1:1 2:1", "1:1 2:1 ", " :",
		"1:4294967296", "1:4294967297", "1:4294967305", "1:9999999999", "1:10000000000", "1:18446744073709551615", "1:18446744073709551616", "1:18446744073709551617", "1:340282366920938463463374607431768211457", "8:4294967296", "1:1 2:4294967296", "1:4294967296 2:1",
		"1:1,2:1", "1:1;2:1", "1:1\t2:1", "1:1\n2:1", "1:1\n", "\n1:1", "1:1\x00", "\x001:1", "1=1", "1.1", "1:1.0", "1:1e3", "1:0x1", "0x1:1", "1:1_0", "1:0b1", "1:0o1", "1_:1", "a:1", "1:a", "1:1a", "1:a1", "x", "1:\xff", "\xff:1", "1:1\xff2:1",
		"1:\u0661", "\u0661:1", "1\uff1a1", "1:1\u00a02:1", "1:\uff11", "[3 0 0 20 0 0 0 0]", "nil",
		"1:1 2:1 3:1 4:1 5:1 6:1 7:1 8:1 9:1", "0:1 1:1 2:1 3:1 4:1 5:1 6:1 7:1 8:1",
	} {
		reads(t, s, api.Vec{}, api.ErrForm)
	}
}

// P6.2: texts that are long, and written as no vector.
func TestLongTexts(t *testing.T) {
	for _, s := range []string{
		strings.Repeat(" ", 1<<16), strings.Repeat(":", 1<<16), strings.Repeat("1", 1<<16), strings.Repeat("1:1 ", 1<<16), strings.Repeat("8:1 ", 1<<16) + "8:1",
		"1:" + strings.Repeat("0", 1<<16) + "1", strings.Repeat("0", 1<<16) + "1:1", "1:1" + strings.Repeat("0", 1<<16), "1:1" + strings.Repeat(" ", 1<<16), strings.Repeat("1:", 1<<16) + "1",
	} {
		if got, e := vec.Read(s); got != (api.Vec{}) || e != api.ErrForm {
			t.Errorf("Read of %d bytes %.10q = %v, %d", len(s), s, got, e)
		}
	}
}

// P6.2: Read of all short texts of some bytes.
func TestReadOfAllShortTexts(t *testing.T) {
	form := shape()
	valid := 0
	level := []string{""}
	for range 7 {
		var next []string
		for _, s := range level {
			for _, c := range "0128: " {
				next = append(next, s+string(c))
			}
		}
		for _, s := range next {
			want, e := expect(form, s)
			if e == api.OK {
				valid++
			}
			reads(t, s, want, e)
		}
		level = next
	}
	// Three replicas, first digits and others: 3*3*(1+4+16+64+256) with one replica, 3*3*3 with two.
	if valid != 3096 {
		t.Errorf("%d texts are ones of vectors", valid)
	}
}

// P6.2: known texts with any byte in any place taken out, put in, or put in another one's place.
func TestReadOfChangedTexts(t *testing.T) {
	form := shape()
	for s := range known() {
		if len(s) > 40 {
			continue
		}
		for i := range len(s) + 1 {
			for c := range 256 {
				texts := []string{s[:i] + string([]byte{byte(c)}) + s[i:]}
				if i < len(s) {
					texts = append(texts, s[:i]+s[i+1:], s[:i]+string([]byte{byte(c)})+s[i+1:])
				}
				for _, x := range texts {
					want, e := expect(form, x)
					reads(t, x, want, e)
				}
			}
		}
	}
}

// P6.2: each vector's text tells its replicas that have events, rising, and Read finds the vector again.
func TestWriteAndRead(t *testing.T) {
	seen := map[string]api.Vec{}
	for _, v := range mixed() {
		s := vec.Write(v)
		want := ""
		for i := len(v) - 1; i >= 0; i-- {
			if v[i] != 0 {
				want = fmt.Sprintf("%d:%d %s", i+1, v[i], want)
			}
		}
		if want = strings.TrimSuffix(want, " "); s != want {
			t.Errorf("Write(%v) = %q, want %q", v, s, want)
		}
		reads(t, s, v, api.OK)
		if other, ok := seen[s]; ok && other != v {
			t.Errorf("%v and %v are both written %q", v, other, s)
		}
		seen[s] = v
	}
}
