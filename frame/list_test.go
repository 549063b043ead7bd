package frame

import (
	"bytes"
	"slices"
	"testing"

	"stillroom/api"
)

// laid: frames, one behind the other, by the chapter's words.
func laid(l [][]byte) []byte {
	var out []byte
	for _, b := range l {
		out = append(out, made(b)...)
	}
	return out
}

// lists: of what is framed: none, one, each two, and many.
func lists() [][][]byte {
	l := [][][]byte{nil, {}, insides(), slices.Repeat([][]byte{nil}, 1000), slices.Repeat([][]byte{{83, 0}}, 127)}
	for _, a := range few() {
		l = append(l, [][]byte{a})
		for _, b := range few() {
			l = append(l, [][]byte{a, b}, [][]byte{a, nil, b})
		}
	}
	return l
}

func same(a, b [][]byte) bool { return slices.EqualFunc(a, b, bytes.Equal) }

// P5.1, P5.2: List, and Split of it.
func TestLists(t *testing.T) {
	for _, l := range lists() {
		b, e := List(l)
		if e != api.OK || !bytes.Equal(b, laid(l)) {
			t.Errorf("List of %d: %v, %d", len(l), short(b), e)
		}
		if got, e := Split(b); e != api.OK || !same(got, l) {
			t.Errorf("of %d, %v, come back: %d, %d", len(l), short(b), len(got), e)
		}
	}
}

// P5.1: List of what has too many bytes, wherever it stands.
func TestListFull(t *testing.T) {
	great, most := make([]byte, api.MaxFrame+1), make([]byte, api.MaxFrame)
	for _, l := range [][][]byte{{great}, {great, nil}, {nil, great}, {most, great, most}, {[]byte("a"), nil, great, great}} {
		if b, e := List(l); len(b) != 0 || e != api.ErrFull {
			t.Errorf("List of %d: %d bytes, %d", len(l), len(b), e)
		}
	}
	if b, e := List([][]byte{most, most}); len(b) != 2*(api.MaxFrame+8) || e != api.OK {
		t.Errorf("List of two of the longest: %d bytes, %d", len(b), e)
	}
}

func unsplit(t *testing.T, b []byte, want api.Errno) {
	t.Helper()
	if l, e := Split(b); len(l) != 0 || e != want {
		t.Errorf("Split of %d bytes, %v: %d, %d, want error %d", len(b), short(b), len(l), e, want)
	}
}

// P5.1: Split of what aren't frames: the error is that of the first one that is none, whatever stands behind.
func TestSplitRefuses(t *testing.T) {
	form, sum, good := []byte{84, 0, 0, 0, 0, 0}, []byte{83, 0, 0, 0, 0, 0}, made([]byte("hi"))
	for _, front := range [][]byte{nil, made(nil), good, laid(few())} {
		for _, behind := range [][]byte{nil, good, form, sum, {0}, {83}} {
			unsplit(t, slices.Concat(front, sum, behind), api.ErrSum)
			unsplit(t, slices.Concat(front, form, behind), api.ErrForm)
		}
		for n := 1; n < len(good); n++ {
			unsplit(t, slices.Concat(front, good[:n]), api.ErrForm)
			unsplit(t, slices.Concat(front, good, good[n:]), api.ErrForm)
		}
		for _, b := range otherSums() {
			unsplit(t, slices.Concat(front, b), api.ErrSum)
		}
	}
	for _, b := range notFrames() {
		if len(b) > 0 {
			unsplit(t, slices.Concat(good, b), api.ErrForm)
		}
	}
	// A number that tells fewer bytes ends what is as long as a frame there, where the sum is another one.
	for _, b := range tooLong() {
		unsplit(t, b, api.ErrSum)
		unsplit(t, slices.Concat(good, b), api.ErrSum)
	}
}

// P5.1: each short row of bytes is frames, or isn't, by Decode; and what Split answers is what List makes it of.
func TestSplitShort(t *testing.T) {
	empty := made(nil)
	parts := [][]byte{empty, made([]byte{83}), {83, 0}, empty[2:], {83}, {0}, {128}}
	var grow func(b []byte, deep int)
	grow = func(b []byte, deep int) {
		l, e := Split(b)
		if e == api.OK && !bytes.Equal(laid(l), b) {
			t.Errorf("Split(%v): %v", b, l)
		}
		if e != api.OK && len(l) != 0 {
			t.Errorf("Split(%v): %v, %d", b, l, e)
		}
		one, f := Decode(b)
		if alone := e == api.OK && len(l) == 1; alone != (f == api.OK) || alone && !bytes.Equal(l[0], one) {
			t.Errorf("of %v: Split %v, %d; Decode %v, %d", b, l, e, one, f)
		}
		for _, p := range parts {
			if deep > 0 {
				grow(slices.Concat(b, p), deep-1)
			}
		}
	}
	grow(nil, 5)
}

// smear writes over all of what bytes have, spare room included.
func smear(b []byte) {
	for n := range b[:cap(b)] {
		b[:cap(b)][n] ^= 99
	}
}

// P5.3: what is handed in stays, spare room included, and no answer shares it.
func TestStays(t *testing.T) {
	frames := laid(few())
	for _, whole := range [][]byte{made([]byte("hi")), made(nil), frames, []byte("abc"), {83, 0, 0, 0, 0, 0}} {
		room := append(slices.Clone(whole), 83, 0, 1, 2, 3, 4, 5, 6)
		was := slices.Clone(room)
		for n := range len(room) + 1 {
			b := room[:n]
			Sum(b)
			f, _ := Encode(b)
			d, _ := Decode(b)
			l, _ := List([][]byte{b, b})
			s, _ := Split(b)
			for _, out := range append(s, f, d, l) {
				smear(out)
			}
			if !bytes.Equal(room, was) {
				t.Fatalf("%d bytes of %v that were handed in are now %v", n, short(was), short(room))
			}
		}
	}
	in := few()
	wide := append(slices.Clone(in), []byte("spare"))
	b, _ := List(wide[:len(in)])
	smear(b)
	if !same(wide[:len(in)], few()) || string(wide[len(in)]) != "spare" {
		t.Error("a list that was handed in goes with what is answered")
	}
}

// P5.3: what is answered stays, when what was handed in goes.
func TestApart(t *testing.T) {
	hi, f, l := []byte("hi"), made([]byte("hi")), laid(few())
	in := [][]byte{slices.Clone(hi), slices.Clone(hi)}
	framed, _ := Encode(in[0])
	inside, _ := Decode(f)
	listed, _ := List(in)
	split, _ := Split(l)
	for _, b := range append(in, f, l) {
		smear(b)
	}
	if !bytes.Equal(framed, made(hi)) || !bytes.Equal(inside, hi) || !bytes.Equal(listed, laid([][]byte{hi, hi})) || !same(split, few()) {
		t.Errorf("with what was handed in go: %v, %v, %v, %v", framed, inside, listed, split)
	}
}

// P5.3, R6: two answers share nothing, nor do two lists of one, spare room included.
func TestAnswersApart(t *testing.T) {
	l := laid(few())
	first, _ := Split(l)
	second, _ := Split(l)
	for n := range first {
		smear(first[n])
		if !same(first[n+1:], few()[n+1:]) {
			t.Fatalf("what is behind %d goes with it", n)
		}
	}
	for n := range first[:cap(first)] {
		first[:cap(first)][n] = nil
	}
	if !same(second, few()) {
		t.Error("a second answer of Split goes with the first")
	}
	f, hi := made([]byte("hi")), []byte("hi")
	for _, call := range []func() []byte{
		func() []byte { b, _ := Encode(nil); return b }, func() []byte { b, _ := Encode(hi); return b }, func() []byte { b, _ := Decode(f); return b },
		func() []byte { b, _ := List(nil); return b }, func() []byte { b, _ := List([][]byte{hi, nil}); return b },
	} {
		a, b := call(), call()
		was := slices.Clone(b)
		smear(a)
		if !bytes.Equal(b, was) || !bytes.Equal(call(), was) {
			t.Errorf("%v goes with what was answered ahead of it", was)
		}
	}
}
