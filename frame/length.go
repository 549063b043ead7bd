package frame

import (
	"errors"
	"strconv"

	"stillroom/api"
	"stillroom/codec"
)

// What may be wrong with a length, beside what codec finds.
var (
	errHead  = errors.New("no frame begins so")
	errGreat = errors.New("more bytes than a frame may have")
	errShort = errors.New("the bytes end too soon")
	errMore  = errors.New("bytes behind the frame")
)

// beneath: codec's error, which it tells by its number.
type beneath api.Errno

func (e beneath) Error() string {
	return "codec's error " + strconv.Itoa(int(e))
}

// length: something is wrong with a length; it is told by a number, and wraps the error beneath.
type length struct {
	number api.Errno
	why    error
}

func (l length) Error() string {
	return "the length: " + l.why.Error()
}

func (l length) Unwrap() error {
	return l.why
}

// told: an error's number.
func told(err error) api.Errno {
	var l length
	switch {
	case err == nil:
		return api.OK
	case errors.As(err, &l):
		return l.number
	}
	return api.ErrSum
}

// cut takes what is as long as a frame from the front of bytes, and answers what is left.
func cut(b []byte) (framed, []byte, error) {
	from, to, err := measure(b)
	if err != nil {
		return framed{}, nil, length{api.ErrForm, err}
	}
	end := to + sumBytes
	return framed{b[:to], from, b[to:end]}, b[end:], nil
}

// measure: where the inside of the frame at the front of bytes begins and ends; the bytes of its sum are there too.
func measure(b []byte) (int, int, error) {
	if len(b) == 0 {
		return 0, 0, errShort
	}
	if b[0] != head {
		return 0, 0, errHead
	}
	n, digits, e := codec.ReadNumber(b[1:])
	if e != api.OK {
		return 0, 0, beneath(e)
	}
	// Ahead of any reckoning with it: a greater one might go over.
	if n > api.MaxFrame {
		return 0, 0, errGreat
	}
	from := 1 + digits
	to := from + int(n)
	if to+sumBytes > len(b) {
		return 0, 0, errShort
	}
	return from, to, nil
}
