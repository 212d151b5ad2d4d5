package vec

import (
	"strconv"
	"strings"

	"wardship/api"
)

const (
	// between stands between two replicas of a written vector.
	between = " "
	// within stands between a replica and its number.
	within = ":"
)

// Write is v as a text: each replica that has events, and how many.
func Write(v api.Vec) string {
	var parts []string
	for i, n := range v {
		if n > 0 {
			parts = append(parts, strconv.Itoa(i+1)+within+strconv.FormatUint(uint64(n), 10))
		}
	}
	return strings.Join(parts, between)
}

// Read is the vector that is written as s.
func Read(s string) (api.Vec, api.Errno) {
	var v api.Vec
	for rest := s; rest != ""; {
		part, behind, _ := strings.Cut(rest, between)
		id, ok := readPart(part)
		if !ok {
			return api.Vec{}, api.ErrForm
		}
		v = With(v, id)
		rest = behind
	}
	// Leading zeros, replicas out of order and the like have come through, but no vector is written so.
	if Write(v) != s {
		return api.Vec{}, api.ErrForm
	}
	return v, api.OK
}

// readPart is the last event of a replica that the part of a text between two blanks tells of.
func readPart(part string) (api.ID, bool) {
	left, right, _ := strings.Cut(part, within)
	rep, err := strconv.Atoi(left)
	if err != nil {
		return api.ID{}, false
	}
	seq, err := strconv.ParseUint(right, 10, 32)
	if err != nil {
		return api.ID{}, false
	}
	return api.ID{Rep: rep, Seq: uint32(seq)}, true
}
