package codec_test

import (
	"bytes"
	"math"
	"testing"

	"wardship/api"
	"wardship/codec"
)

// numCases are numbers and their bytes: 0, the greatest one, and both sides of each further byte.
func numCases() map[uint64][]byte {
	return map[uint64][]byte{
		0:              {},
		1:              {1},
		97:             {97},
		255:            {255},
		256:            {1, 0},
		300:            {1, 44},
		1<<16 - 1:      {255, 255},
		1 << 16:        {1, 0, 0},
		1<<24 - 1:      {255, 255, 255},
		1 << 24:        {1, 0, 0, 0},
		1<<32 - 1:      {255, 255, 255, 255},
		1 << 32:        {1, 0, 0, 0, 0},
		1<<40 - 1:      {255, 255, 255, 255, 255},
		1 << 40:        {1, 0, 0, 0, 0, 0},
		1<<48 - 1:      {255, 255, 255, 255, 255, 255},
		1 << 48:        {1, 0, 0, 0, 0, 0, 0},
		1<<56 - 1:      {255, 255, 255, 255, 255, 255, 255},
		1 << 56:        {1, 0, 0, 0, 0, 0, 0, 0},
		1 << 63:        {128, 0, 0, 0, 0, 0, 0, 0},
		math.MaxUint64: {255, 255, 255, 255, 255, 255, 255, 255},

		0x0102030405060708: {1, 2, 3, 4, 5, 6, 7, 8},
	}
}

// P1.1: Num is the digits in base 256, the most significant first, without leading zeros.
func TestNumIsTheBytesOfANumber(t *testing.T) {
	for n, want := range numCases() {
		if got := codec.Num(n); !bytes.Equal(got, want) {
			t.Errorf("Num(%d) = %v, want %v", n, got, want)
		}
	}
}

// P1.1: AsNum is the number whose bytes are given.
func TestAsNumIsTheNumberOfBytes(t *testing.T) {
	for want, b := range numCases() {
		if got, e := codec.AsNum(b); got != want || e != api.OK {
			t.Errorf("AsNum(%v) = %d, %d, want %d, 0", b, got, e, want)
		}
	}
	if got, e := codec.AsNum(nil); got != 0 || e != api.OK {
		t.Errorf("AsNum(nil) = %d, %d, want 0, 0", got, e)
	}
}

// P1.1: each error of AsNum, and ErrLong ahead of ErrForm; rule 2: the number is 0 beside an error.
func TestAsNumErrors(t *testing.T) {
	for _, c := range []struct {
		b    []byte
		want api.Errno
	}{
		{[]byte{0}, api.ErrForm},
		{[]byte{0, 0}, api.ErrForm},
		{[]byte{0, 1}, api.ErrForm},
		{[]byte{0, 255, 255, 255, 255, 255, 255, 255}, api.ErrForm},
		{make([]byte, 8), api.ErrForm},
		{make([]byte, 9), api.ErrLong},
		{[]byte{0, 1, 2, 3, 4, 5, 6, 7, 8}, api.ErrLong},
		{[]byte{1, 0, 0, 0, 0, 0, 0, 0, 0}, api.ErrLong},
		{bytes.Repeat([]byte{255}, 9), api.ErrLong},
		{make([]byte, 300), api.ErrLong},
	} {
		if n, e := codec.AsNum(c.b); n != 0 || e != c.want {
			t.Errorf("AsNum(%v) = %d, %d, want 0, %d", c.b, n, e, c.want)
		}
	}
}

// P1.1: every pair of bytes is either one number's or, with a leading 0, refused.
func TestAsNumOfAllPairs(t *testing.T) {
	for i := range 1 << 16 {
		b := []byte{byte(i >> 8), byte(i)}
		n, e := codec.AsNum(b)
		if b[0] == 0 {
			if n != 0 || e != api.ErrForm {
				t.Fatalf("AsNum(%v) = %d, %d, want 0, %d", b, n, e, api.ErrForm)
			}
			continue
		}
		if n != uint64(i) || e != api.OK || !bytes.Equal(codec.Num(n), b) {
			t.Fatalf("AsNum(%v) = %d, %d; Num of it is %v", b, n, e, codec.Num(n))
		}
	}
}

// Rule 4: AsNum doesn't change its argument, and neither reads nor writes behind its end; Num's results share nothing.
func TestNumsShareNothing(t *testing.T) {
	all := []byte{1, 44, 7, 7}
	if n, e := codec.AsNum(all[:2]); n != 300 || e != api.OK {
		t.Errorf("AsNum of a part = %d, %d", n, e)
	}
	if !bytes.Equal(all, []byte{1, 44, 7, 7}) {
		t.Errorf("AsNum left %v", all)
	}
	first, second := codec.Num(300), codec.Num(300)
	first[0] = 9
	if !bytes.Equal(second, []byte{1, 44}) || !bytes.Equal(codec.Num(300), []byte{1, 44}) {
		t.Errorf("Num's results share memory: %v", second)
	}
}
