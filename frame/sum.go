package frame

// sumBytes: how many bytes a sum has in a frame.
const sumBytes = 4

// turns: by what a sum is turned as its lowest four bits are moved out. By four bits, not by eight, as the table then has sixteen words.
var turns = [16]uint32{
	0x00000000, 0x1db71064, 0x3b6e20c8, 0x26d930ac,
	0x76dc4190, 0x6b6b51f4, 0x4db26158, 0x5005713c,
	0xedb88320, 0xf00f9344, 0xd6d6a3e8, 0xcb61b38c,
	0x9b64c2b0, 0x86d3d2d4, 0xa00ae278, 0xbdbdf21c,
}

// Sum: of bytes.
func Sum(b []byte) uint32 {
	c := ^uint32(0)
	for _, x := range b {
		c ^= uint32(x)
		c = c>>4 ^ turns[c%16]
		c = c>>4 ^ turns[c%16]
	}
	return ^c
}

// tail: the sum of all ahead, as it stands at a frame's end.
func tail(b []byte) []byte {
	c := Sum(b)
	return []byte{byte(c), byte(c >> 8), byte(c >> 16), byte(c >> 24)}
}
