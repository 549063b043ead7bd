package frame

import (
	"bytes"
	"errors"
	"hash/crc32"
	"math"
	"slices"
	"testing"

	"stillroom/api"
	"stillroom/codec"
)

// slowSum: by the chapter's words, bit by bit.
func slowSum(b []byte) uint32 {
	c := uint32(0xffffffff)
	for _, x := range b {
		c ^= uint32(x)
		for range 8 {
			if c&1 == 1 {
				c = c>>1 ^ 0xedb88320
			} else {
				c >>= 1
			}
		}
	}
	return c ^ 0xffffffff
}

// sealed puts the sum behind bytes, whatever they are.
func sealed(l ...[]byte) []byte {
	b := slices.Concat(l...)
	c := slowSum(b)
	return append(b, byte(c), byte(c>>8), byte(c>>16), byte(c>>24))
}

// made: the frame of bytes, by the chapter's words.
func made(b []byte) []byte {
	return sealed([]byte{83}, codec.Number(uint64(len(b))), b)
}

// noise: bytes without a plain pattern, the same ones each time.
func noise(n int, seed uint32) []byte {
	out := make([]byte, n)
	for i := range out {
		seed = seed*1664525 + 1013904223
		out[i] = byte(seed >> 24)
	}
	return out
}

// insides: of frames, with the edges of their numbers, and what looks like frames.
func insides() [][]byte {
	l := [][]byte{nil, {0}, {83}, {255}, {83, 0}, {83, 0, 0, 0, 0, 0}, []byte("hi"), made(nil), made([]byte("hi")), slices.Concat(made(nil), made([]byte{1}))}
	for _, n := range []int{3, 4, 5, 126, 127, 128, 129, 255, 256, 16383, 16384, 16385, api.MaxFrame - 1, api.MaxFrame} {
		l = append(l, make([]byte, n), noise(n, uint32(n)))
	}
	return l
}

// few: the short ones of them.
func few() [][]byte {
	return slices.DeleteFunc(insides(), func(b []byte) bool { return len(b) > 300 })
}

func short(b []byte) []byte { return b[:min(len(b), 40)] }

func refused(t *testing.T, b []byte, want api.Errno) {
	t.Helper()
	if got, e := Decode(b); len(got) != 0 || e != want {
		t.Errorf("Decode of %d bytes, %v: %v, %d, want error %d", len(b), short(b), short(got), e, want)
	}
}

// spoilt: the bytes aren't decoded.
func spoilt(t *testing.T, b []byte) {
	t.Helper()
	got, e := Decode(b)
	if len(got) != 0 || e != api.ErrForm && e != api.ErrSum {
		t.Fatalf("Decode of %d bytes, %v: %v, %d", len(b), short(b), short(got), e)
	}
}

// P5.1: Sum.
func TestSum(t *testing.T) {
	for s, want := range map[string]uint32{
		"": 0, "\x00": 0xd202ef8d, "\xff": 0xff000000, "\x00\x00\x00\x00": 0x2144df1c, "\xff\xff\xff\xff": 0xffffffff,
		"a": 0xe8b7be43, "abc": 0x352441c2, "123456789": 0xcbf43926,
	} {
		if got := Sum([]byte(s)); got != want {
			t.Errorf("Sum(%q): %08x, want %08x", s, got, want)
		}
	}
	for x := range 256 {
		for _, b := range [][]byte{{byte(x)}, {byte(x), 7}, {7, byte(x)}, bytes.Repeat([]byte{byte(x)}, 9)} {
			if got := Sum(b); got != slowSum(b) {
				t.Errorf("Sum(%v): %08x, want %08x", b, got, slowSum(b))
			}
		}
	}
	for _, b := range insides() {
		if got := Sum(b); got != slowSum(b) || got != crc32.ChecksumIEEE(b) {
			t.Errorf("Sum of %d bytes, %v: %08x, want %08x", len(b), short(b), got, slowSum(b))
		}
	}
}

// P5.1: Encode; the example is the frame of no bytes.
func TestEncode(t *testing.T) {
	for _, none := range [][]byte{nil, {}} {
		if got, e := Encode(none); e != api.OK || !bytes.Equal(got, []byte{83, 0, 104, 28, 79, 208}) {
			t.Errorf("Encode of no bytes: %v, %d", got, e)
		}
	}
	for _, b := range insides() {
		if got, e := Encode(b); e != api.OK || !bytes.Equal(got, made(b)) {
			t.Errorf("Encode of %d bytes, %v: %v, %d", len(b), short(b), short(got), e)
		}
	}
	for _, n := range []int{api.MaxFrame + 1, api.MaxFrame + 2, 2 * api.MaxFrame, 1 << 21} {
		if got, e := Encode(make([]byte, n)); len(got) != 0 || e != api.ErrFull {
			t.Errorf("Encode of %d bytes: %d of them, %d", n, len(got), e)
		}
	}
}

// P5.2: what is framed comes back.
func TestBack(t *testing.T) {
	for _, b := range insides() {
		f, _ := Encode(b)
		if got, e := Decode(f); e != api.OK || !bytes.Equal(got, b) {
			t.Errorf("of %d bytes, %v, come back: %v, %d", len(b), short(b), short(got), e)
		}
	}
}

// notFrames: what neither is as long as a frame, nor begins with what is, though its sum is right, if it has one.
func notFrames() [][]byte {
	hi := []byte("hi")
	l := [][]byte{
		nil, {}, {83}, {83, 0}, {83, 128}, {83, 0, 104, 28, 79}, {0}, {82, 83}, bytes.Repeat([]byte{255}, 30),
		sealed(nil), sealed([]byte{83}), sealed(hi),
		// Another first byte.
		sealed([]byte{82, 0}), sealed([]byte{84, 2}, hi), sealed([]byte{83 + 128, 2}, hi), sealed([]byte{0, 83, 2}, hi),
		// No number: in more bytes than it needs, without an end, of more than 64 bits.
		sealed([]byte{83, 128, 0}), sealed([]byte{83, 130, 0}, hi), sealed([]byte{83, 130, 128, 0}, hi), sealed([]byte{83}, bytes.Repeat([]byte{128}, 20)),
		sealed([]byte{83}, bytes.Repeat([]byte{255}, 9), []byte{2}), sealed([]byte{83}, bytes.Repeat([]byte{128}, 10), []byte{1}),
		// Fewer bytes than the number tells.
		sealed([]byte{83, 1}), sealed([]byte{83, 3}, hi), sealed([]byte{83, 6}, hi), sealed([]byte{83, 127}, hi), sealed([]byte{83, 128, 1}, make([]byte, 127)),
		// One that is too great, with as many bytes as it tells.
		sealed([]byte{83}, codec.Number(api.MaxFrame+1), make([]byte, api.MaxFrame+1)), sealed([]byte{83}, codec.Number(1<<18), make([]byte, 1<<18)),
	}
	for _, n := range []uint64{api.MaxFrame, api.MaxFrame + 1, 1<<31 - 1, 1 << 31, 1<<32 - 1, 1 << 32, 1<<32 + 2, math.MaxInt - 20, math.MaxInt, 1 << 63, math.MaxUint64} {
		l = append(l, sealed([]byte{83}, codec.Number(n), hi))
	}
	// Numbers that go round to a few bytes, if their ends are reckoned in 64 bits.
	for n := range uint64(40) {
		l = append(l, sealed([]byte{83}, codec.Number(-n-1), hi))
	}
	return l
}

// tooLong: the sum is right, but the number tells fewer bytes.
func tooLong() [][]byte {
	hi := []byte("hi")
	return [][]byte{sealed([]byte{83, 1}, hi), sealed([]byte{83, 0}, hi), sealed([]byte{83, 0}, []byte{0}), sealed([]byte{83, 128, 1}, make([]byte, 129)), sealed([]byte{83, 127}, make([]byte, 128))}
}

// otherSums: as long as a frame, with another sum.
func otherSums() [][]byte {
	hi := []byte("hi")
	f := made(hi)
	turned := slices.Clone(f)
	slices.Reverse(turned[4:])
	l := [][]byte{turned, {83, 0, 0, 0, 0, 0}, slices.Concat(f[:4], make([]byte, 4)), slices.Concat([]byte{83, 2}, sealed(hi)), slices.Concat([]byte{83}, sealed([]byte{2}, hi))}
	for at := 2; at < len(f); at++ {
		b := slices.Clone(f)
		b[at]++
		l = append(l, b)
	}
	great := made(noise(api.MaxFrame, 1))
	great[5]++
	return append(l, great)
}

// P5.1: Decode of what is no frame; a length that is wrong goes ahead of a sum that is.
func TestDecodeRefuses(t *testing.T) {
	for _, b := range append(notFrames(), tooLong()...) {
		refused(t, b, api.ErrForm)
	}
	for _, b := range otherSums() {
		refused(t, b, api.ErrSum)
		refused(t, append(slices.Clone(b), 0), api.ErrForm)
		refused(t, b[:len(b)-1], api.ErrForm)
		refused(t, append([]byte{84}, b[1:]...), api.ErrForm)
	}
	f := made([]byte("hi"))
	refused(t, slices.Concat(f, f), api.ErrForm)
}

// P5.2: of a frame of which some bits are turned, all within 32 in a row (of each byte the lowest first).
func TestTurned(t *testing.T) {
	for _, b := range few() {
		f := made(b)
		turn := func(at int, bits uint32) {
			g := slices.Clone(f)
			for n := range 32 {
				if bits>>n&1 == 1 && at+n < 8*len(g) {
					g[(at+n)/8] ^= 1 << ((at + n) % 8)
				}
			}
			if !bytes.Equal(f, g) {
				spoilt(t, g)
			}
		}
		seed := uint32(len(f))
		for at := range 8 * len(f) {
			for n := range 32 {
				turn(at, 1|1<<n)
				turn(at, 1<<n|(1<<n-1))
			}
			for _, bits := range []uint32{0x04c11db7, 0xedb88320, 0x82608edb, 0xdb710641, 0x55555555, 0x80000001, 0xff0000ff} {
				turn(at, bits)
			}
			for range 20 {
				seed = seed*1664525 + 1013904223
				turn(at, seed^seed>>16)
			}
		}
	}
}

// P5.2: all that is turned within the first bytes, where the length is.
func TestTurnedAtFront(t *testing.T) {
	for _, n := range []int{0, 1, 2, 126, 127, 128, 129, 16383, 16384} {
		f := made(noise(n, 5))
		for x := range 256 * 256 {
			g := slices.Clone(f[:2])
			g[0], g[1] = f[0]^byte(x>>8), f[1]^byte(x)
			if x > 0 && (n < 200 || x%97 == 0) {
				spoilt(t, append(g, f[2:]...))
			}
		}
	}
	f := made(noise(api.MaxFrame, 6))
	for at := range 64 {
		for _, place := range []int{at, 8*len(f) - 1 - at, 4*len(f) + at} {
			f[place/8] ^= 1 << (place % 8)
			spoilt(t, f)
			f[place/8] ^= 1 << (place % 8)
		}
	}
}

// P5.2: a frame with bytes more or fewer, at its ends and within.
func TestMoreOrFewer(t *testing.T) {
	for _, b := range few() {
		f := made(b)
		for n := range len(f) {
			refused(t, f[:n], api.ErrForm)
		}
		for _, tail := range [][]byte{{0}, {83}, {255}, {0, 0, 0, 0}, made(nil), f, noise(200, 3)} {
			refused(t, slices.Concat(f, tail), api.ErrForm)
		}
		for at := range len(f) + 1 {
			for _, x := range []byte{0, 1, 83, 128, 255} {
				spoilt(t, slices.Insert(slices.Clone(f), at, x))
			}
			for many := 1; many < 6 && at+many <= len(f); many++ {
				spoilt(t, slices.Delete(slices.Clone(f), at, at+many))
			}
		}
	}
	f := made(noise(api.MaxFrame, 9))
	refused(t, f[:len(f)-1], api.ErrForm)
	refused(t, append(f, 0), api.ErrForm)
}

// Ways, layer 5: what is wrong with a length is found by errors.As, and wraps the error beneath; another sum is none of these.
func TestLengths(t *testing.T) {
	great := codec.Number(api.MaxFrame + 1)
	for _, c := range []struct {
		b   []byte
		why error
	}{
		{nil, errShort}, {[]byte{82}, errHead}, {[]byte{83}, beneath(api.ErrForm)}, {[]byte{83, 128, 0, 0, 0, 0, 0}, beneath(api.ErrForm)},
		{append([]byte{83}, great...), errGreat}, {[]byte{83, 2, 'h', 'i', 0, 0, 0}, errShort}, {[]byte{83, 0, 104, 28, 79}, errShort},
	} {
		var l length
		_, _, err := cut(c.b)
		if !errors.As(err, &l) || l.number != api.ErrForm || !errors.Is(err, c.why) {
			t.Errorf("of %v: %v, want %v", c.b, err, c.why)
		}
	}
	var l length
	if _, err := enclose(make([]byte, api.MaxFrame+1)); !errors.As(err, &l) || l.number != api.ErrFull || !errors.Is(err, errGreat) {
		t.Errorf("of too many bytes: %v", err)
	}
	f, _, _ := cut([]byte{83, 0, 0, 0, 0, 0})
	if _, err := f.open(); errors.As(err, &l) || !errors.Is(err, errSum) {
		t.Errorf("of another sum: %v", err)
	}
	if got := (length{api.ErrForm, beneath(api.ErrForm)}).Error(); got != "the length: codec's error 2" {
		t.Errorf("Error: %q", got)
	}
}
