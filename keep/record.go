package keep

import (
	"slices"

	"wardship/api"
	"wardship/codec"
)

const (
	// maxRecord is how many bytes a record may have.
	maxRecord = 65531
	// present begins the field of a value, so that a value without bytes differs from none.
	present = 1
	// perChange is how many fields each change has.
	perChange = 2
)

// asRecord is the record of the changes.
func asRecord(l []api.Put) ([]byte, api.Errno) {
	var record []byte
	// One by one: changes that don't fit may be far more than a record.
	for _, put := range l {
		fields, e := codec.Pack(codec.Num(put.Key), valueField(put))
		if e != api.OK {
			return nil, e
		}
		if len(fields) > maxRecord-len(record) {
			return nil, api.ErrLong
		}
		record = append(record, fields...)
	}
	return record, api.OK
}

// valueField is the field that tells which value a change gives, or that it gives none.
func valueField(put api.Put) []byte {
	if put.Gone {
		return nil
	}
	return slices.Concat([]byte{present}, put.Val)
}

// asChanges is the changes of which b is the record.
func asChanges(b []byte) ([]api.Put, api.Errno) {
	// Each field takes a byte at least, so that there are never too many.
	fields, e := codec.Unpack(b, len(b))
	if e != api.OK || len(fields)%perChange != 0 {
		return nil, api.ErrForm
	}
	var l []api.Put
	for pair := range slices.Chunk(fields, perChange) {
		put, e := asChange(pair[0], pair[1])
		if e != api.OK {
			return nil, e
		}
		l = append(l, put)
	}
	return l, api.OK
}

// asChange is the change with these two fields.
func asChange(key, value []byte) (api.Put, api.Errno) {
	n, e := codec.AsNum(key)
	if e != api.OK {
		return api.Put{}, api.ErrForm
	}
	if len(value) == 0 {
		return api.Put{Key: n, Gone: true}, api.OK
	}
	if value[0] != present {
		return api.Put{}, api.ErrForm
	}
	return api.Put{Key: n, Val: value[1:]}, api.OK
}
