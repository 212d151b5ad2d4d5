// Package codec is layer 1: numbers and length-prefixed fields as bytes, in exactly one form each.
package codec

import (
	"bytes"
	"iter"
	"math/bits"

	"wardship/api"
)

const (
	// maxNum is how many bytes the greatest number has.
	maxNum = 8
	// wide is the first byte of a length that takes two bytes more, and the least such length.
	wide = 255
	// wideSize is how many bytes such a length takes in all.
	wideSize = 3
)

// Num is the bytes of n: its digits in base 256, the most significant first, none for 0.
func Num(n uint64) []byte {
	b := make([]byte, (bits.Len64(n)+7)/8)
	for i := len(b) - 1; i >= 0; i-- {
		b[i] = byte(n)
		n >>= 8
	}
	return b
}

// AsNum is the number whose bytes b are. A leading 0 is refused, so that no number has a second form.
func AsNum(b []byte) (uint64, api.Errno) {
	if len(b) > maxNum {
		return 0, api.ErrLong
	}
	if len(b) > 0 && b[0] == 0 {
		return 0, api.ErrForm
	}
	var n uint64
	for _, digit := range b {
		n = n<<8 | uint64(digit)
	}
	return n, api.OK
}

// Pack is the encoded fields, one after the other, each behind its length.
func Pack(fields ...[]byte) ([]byte, api.Errno) {
	var packed []byte
	for _, field := range fields {
		if len(field) > api.MaxField {
			return nil, api.ErrLong
		}
		packed = appendLength(packed, len(field))
		packed = append(packed, field...)
	}
	return packed, api.OK
}

// appendLength is b with the length n, at most MaxField, behind it.
func appendLength(b []byte, n int) []byte {
	if n < wide {
		return append(b, byte(n))
	}
	return append(b, wide, byte(n>>8), byte(n))
}

// Fields goes over the fields of b, with OK for each; an error, if there is one, is the last thing that it yields.
func Fields(b []byte) iter.Seq2[[]byte, api.Errno] {
	// The iterator may be ranged over after the caller has changed b.
	own := bytes.Clone(b)
	return func(yield func([]byte, api.Errno) bool) {
		for rest := own; len(rest) > 0; {
			field, behind, e := firstField(rest)
			if e != api.OK {
				yield(nil, e)
				return
			}
			// The consumer may change what it gets, which must not show in a later pass.
			if !yield(bytes.Clone(field), api.OK) {
				return
			}
			rest = behind
		}
	}
}

// Unpack is all fields of b, of which there may be at most most.
func Unpack(b []byte, most int) ([][]byte, api.Errno) {
	var fields [][]byte
	for field, e := range Fields(b) {
		if e != api.OK {
			return nil, e
		}
		if len(fields) >= most {
			return nil, api.ErrLong
		}
		fields = append(fields, field)
	}
	return fields, api.OK
}

// firstField is the first field of b, which isn't empty, and what follows it; both are parts of b.
func firstField(b []byte) (field, behind []byte, e api.Errno) {
	n, size, e := firstLength(b)
	if e != api.OK {
		return nil, nil, e
	}
	b = b[size:]
	if len(b) < n {
		return nil, nil, api.ErrCut
	}
	return b[:n], b[n:], api.OK
}

// firstLength is the length with which b, which isn't empty, begins, and how many bytes that length takes.
// A length in three bytes that fits in one is refused, so that no field has a second form.
func firstLength(b []byte) (n, size int, e api.Errno) {
	if b[0] != wide {
		return int(b[0]), 1, api.OK
	}
	if len(b) < wideSize {
		return 0, 0, api.ErrCut
	}
	n = int(b[1])<<8 | int(b[2])
	if n < wide {
		return 0, 0, api.ErrForm
	}
	return n, wideSize, api.OK
}
