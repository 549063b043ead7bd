package codec

import (
	"errors"
	"math"
	"strconv"

	"stillroom/api"
)

// maxValues: of a row that is read.
const maxValues = 255

// Why bytes read wrongly.
var (
	errCut   = errors.New("the bytes end too soon")
	errLoose = errors.New("a number in more bytes than it needs")
	errWide  = errors.New("a number of more than 64 bits")
	errHead  = errors.New("no value begins so")
	errMany  = errors.New("more than there may be")
)

// flaw: the place of the first byte that can't be so, or of the end, if it comes too soon; and why.
type flaw struct {
	at  int
	why error
}

func (f flaw) Error() string {
	return "at " + strconv.Itoa(f.at) + ": " + f.why.Error()
}

func (f flaw) Unwrap() error {
	return f.why
}

// reader reads bytes; at is how many of them it has read.
type reader struct {
	b  []byte
	at int
}

// read answers what part reads at the front of bytes, and how many it has.
func read[T any](b []byte, part func(r *reader) (T, error)) (T, int, api.Errno) {
	r := reader{b: b}
	out, err := part(&r)
	var f flaw
	if errors.As(err, &f) {
		var none T
		return none, 0, api.ErrForm
	}
	return out, r.at, api.OK
}

// cut: the bytes end too soon.
func (r *reader) cut() error {
	return flaw{len(r.b), errCut}
}

// wrong: the byte that was read last can't be so.
func (r *reader) wrong(why error) error {
	return flaw{r.at - 1, why}
}

func (r *reader) next() (byte, error) {
	if r.at == len(r.b) {
		return 0, r.cut()
	}
	r.at++
	return r.b[r.at-1], nil
}

func (r *reader) number() (uint64, error) {
	var n uint64
	for shift := 0; shift < 64; shift += digitBits {
		c, err := r.next()
		if err != nil {
			return 0, err
		}
		digit := uint64(c % more)
		if digit<<shift>>shift != digit {
			break
		}
		n |= digit << shift
		if c >= more {
			continue
		}
		if c == 0 && shift > 0 {
			return 0, r.wrong(errLoose)
		}
		return n, nil
	}
	return 0, r.wrong(errWide)
}

// count reads how many things follow, at most most, of which each has a byte at least.
func (r *reader) count(most int) (int, error) {
	n, err := r.number()
	if err != nil {
		return 0, err
	}
	if n > uint64(most) {
		return 0, r.wrong(errMany)
	}
	// A text is taken in one piece, so its bytes must be there.
	if n > uint64(len(r.b)-r.at) {
		return 0, r.cut()
	}
	return int(n), nil
}

func (r *reader) text(most int) (string, error) {
	n, err := r.count(most)
	if err != nil {
		return "", err
	}
	r.at += n
	return string(r.b[r.at-n : r.at]), nil
}

func (r *reader) value() (api.Value, error) {
	head, err := r.next()
	if err != nil {
		return api.Value{}, err
	}
	switch head {
	case headNull:
		return api.Value{}, nil
	case headNo:
		return api.Value{Kind: api.Bool}, nil
	case headYes:
		return api.Value{Kind: api.Bool, Num: 1}, nil
	case headInt:
		n, err := r.number()
		return api.Value{Kind: api.Int, Num: toInt(n)}, err
	case headText:
		s, err := r.text(api.MaxText)
		return api.Value{Kind: api.Text, Text: s}, err
	}
	return api.Value{}, r.wrong(errHead)
}

func (r *reader) row() (api.Row, error) {
	n, err := r.count(maxValues)
	if err != nil {
		return nil, err
	}
	var out api.Row
	for range n {
		v, err := r.value()
		if err != nil {
			return nil, err
		}
		out = append(out, v)
	}
	return out, nil
}

func (r *reader) rows() ([]api.Row, error) {
	n, err := r.count(math.MaxInt)
	if err != nil {
		return nil, err
	}
	var out []api.Row
	for range n {
		one, err := r.row()
		if err != nil {
			return nil, err
		}
		out = append(out, one)
	}
	return out, nil
}
