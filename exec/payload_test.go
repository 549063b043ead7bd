package exec

import (
	"bytes"
	"math"
	"slices"
	"testing"

	"stillroom/api"
)

// P19.1: an answer's bytes, and the answer of these.
func TestPayload(t *testing.T) {
	for _, c := range []struct {
		a    api.Answer
		want []byte
	}{
		{api.Answer{}, []byte{0, 0}},
		{api.Answer{Rows: []api.Row{}}, []byte{0, 0}},
		{api.Answer{Err: api.ErrOver}, []byte{1}},
		{api.Answer{Rows: []api.Row{{null}}}, []byte{0, 1, 1, 0}},
		{api.Answer{Rows: []api.Row{{num(5), null, text("ab")}, {num(-1), truth(1), text("")}}}, []byte{0, 2, 3, 3, 10, 0, 4, 2, 97, 98, 3, 3, 1, 2, 4, 0}},
		{api.Answer{Rows: slices.Repeat([]api.Row{{truth(0)}}, 200)}, append([]byte{0, 200, 1}, bytes.Repeat([]byte{1, 1}, 200)...)},
	} {
		got := Payload(c.a)
		if !bytes.Equal(got, c.want) {
			t.Errorf("Payload of %v: %v, want %v", c.a, got, c.want)
		}
		if a, e := Read(got); !like(a, c.a) || e != api.OK {
			t.Errorf("Read of %v: %v, %d, want %v", got, a, e, c.a)
		}
		for n := range got {
			refused(t, got[:n])
		}
		for _, more := range []byte{0, 1, 2, 128, 255} {
			refused(t, append(slices.Clone(got), more))
		}
	}
	if got := Payload(api.Answer{Rows: []api.Row{{num(1)}}, Err: api.ErrOver}); !bytes.Equal(got, []byte{1}) {
		t.Errorf("Payload of an error beside rows: %v", got)
	}
}

// refused: bytes that are no answer's; R3: there is none.
func refused(t *testing.T, b []byte) {
	t.Helper()
	if a, e := Read(b); !like(a, api.Answer{}) || e != api.ErrForm {
		t.Errorf("Read of %v: %v, %d", b, a, e)
	}
}

// P19.1: wrong bytes: another head, numbers and values that aren't written so.
func TestReadWrong(t *testing.T) {
	for _, b := range [][]byte{
		nil, {}, {0}, {2}, {255}, {128, 0}, {1, 0}, {1, 1}, {0, 1}, {0, 128, 0}, {0, 129, 0, 0}, {0, 0, 0}, {0, 1, 1, 5}, {0, 1, 2, 0}, {0, 1, 1, 3, 128}, {0, 1, 1, 3, 128, 0}, {0, 1, 1, 4, 2, 97}, {0, 2, 1, 0},
		append([]byte{0, 1, 1, 4, api.MaxText + 1}, make([]byte, api.MaxText+1)...), {2, 0}, {3, 0, 0}, {0, 255, 255, 255, 255, 255, 255, 255, 255, 255, 1}, {0, 255, 255, 255, 255, 255, 255, 255, 255, 127},
	} {
		refused(t, b)
	}
}

// P19.1: of all short bytes of some kinds just those are read that are an answer's.
func TestReadShort(t *testing.T) {
	answers := 0
	var grow func(b []byte)
	grow = func(b []byte) {
		a, e := Read(b)
		switch {
		case e != api.OK:
			refused(t, b)
		case !bytes.Equal(Payload(a), b):
			t.Errorf("Read of %v: %v, of which the bytes are %v", b, a, Payload(a))
		default:
			answers++
		}
		if len(b) == 6 {
			return
		}
		for _, c := range []byte{0, 1, 2, 3, 4, 128, 255} {
			grow(append(slices.Clip(b), c))
		}
	}
	grow(nil)
	if answers < 100 {
		t.Errorf("%d answers", answers)
	}
}

// P9: what no query answers.
func TestOddAnswers(t *testing.T) {
	for _, a := range []api.Answer{{Err: api.ErrForm}, {Err: -1}, {Err: math.MaxInt, Rows: []api.Row{nil, {}}}, {Rows: []api.Row{{{Kind: 9}, {Kind: -1, Num: 3}}}}, {Rows: []api.Row{make(api.Row, 300)}}} {
		Read(Payload(a))
	}
}
