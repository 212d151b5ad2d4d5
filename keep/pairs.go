package keep

import (
	"bytes"
	"iter"
	"maps"
	"slices"

	"wardship/api"
)

// pairs is the keys that have a value, each with it.
type pairs map[uint64][]byte

// change makes the changes, one after the other.
func (p pairs) change(l []api.Put) {
	for _, put := range l {
		if put.Gone {
			delete(p, put.Key)
		} else {
			p[put.Key] = bytes.Clone(put.Val)
		}
	}
}

// clone is the same pairs. It shares their values, which are never changed in place.
func (p pairs) clone() pairs { return maps.Clone(p) }

// sorted goes over the keys, rising.
func (p pairs) sorted() iter.Seq[uint64] {
	return func(yield func(uint64) bool) {
		for _, key := range slices.Sorted(maps.Keys(p)) {
			if !yield(key) {
				return
			}
		}
	}
}

// records is a record for each pair, of that one change.
func (p pairs) records() ([][]byte, api.Errno) {
	var records [][]byte
	for key := range p.sorted() {
		record, e := asRecord([]api.Put{{Key: key, Val: p[key]}})
		if e != api.OK {
			return nil, e
		}
		records = append(records, record)
	}
	return records, api.OK
}
