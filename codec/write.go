package codec

import "stillroom/api"

// The bytes with which values begin.
const (
	headNull = 0
	headNo   = 1
	headYes  = 2
	headInt  = 3
	headText = 4
)

// A number's byte has digitBits of it, and below it more, if another one follows.
const (
	digitBits = 7
	more      = 1 << digitBits
)

func addNumber(b []byte, n uint64) []byte {
	for n >= more {
		b = append(b, byte(n%more)+more)
		n /= more
	}
	return append(b, byte(n))
}

func addValue(b []byte, v api.Value) []byte {
	switch v.Kind {
	case api.Null:
		return append(b, headNull)
	case api.Bool:
		if v.Num == 0 {
			return append(b, headNo)
		}
		return append(b, headYes)
	case api.Int:
		return addNumber(append(b, headInt), ofInt(v.Num))
	case api.Text:
		return addString(append(b, headText), v.Text)
	}
	return b
}

func addRow(b []byte, r api.Row) []byte {
	b = addNumber(b, uint64(len(r)))
	for _, v := range r {
		b = addValue(b, v)
	}
	return b
}

func addString(b []byte, s string) []byte {
	return append(addNumber(b, uint64(len(s))), s...)
}

// ofInt: the number as which an int is written.
func ofInt(n int) uint64 {
	if n < 0 {
		// As ^n is -n - 1, this is -2n - 1, and never goes over on the way.
		return 2*uint64(^n) + 1
	}
	return 2 * uint64(n)
}

// toInt: the int that is written as a number.
func toInt(n uint64) int {
	half := int(n / 2)
	if n%2 == 1 {
		return ^half
	}
	return half
}
