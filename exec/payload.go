package exec

import (
	"stillroom/api"
	"stillroom/codec"
)

// The first byte of an answer's.
const (
	headRows = 0
	headOver = 1
)

// Payload: an answer's bytes.
func Payload(a api.Answer) []byte {
	if a.Err == api.ErrOver {
		return []byte{headOver}
	}
	return append([]byte{headRows}, codec.Rows(a.Rows)...)
}

// Read: the answer of bytes.
func Read(b []byte) (api.Answer, api.Errno) {
	switch {
	case len(b) == 1 && b[0] == headOver:
		return api.Answer{Err: api.ErrOver}, api.OK
	case len(b) > 0 && b[0] == headRows:
		l, n, e := codec.ReadRows(b[1:])
		if e == api.OK && n == len(b)-1 {
			return api.Answer{Rows: l}, api.OK
		}
	}
	return api.Answer{}, api.ErrForm
}
