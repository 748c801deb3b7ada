package frames

// halves tells, of each four bits that leave a Crc at its low end, what they put into it:
// it is shifted four times by one, and 0xEDB88320 put in wherever a 1 left it.
var halves = [16]uint32{
	0x00000000, 0x1db71064, 0x3b6e20c8, 0x26d930ac, 0x76dc4190, 0x6b6b51f4, 0x4db26158, 0x5005713c,
	0xedb88320, 0xf00f9344, 0xd6d6a3e8, 0xcb61b38c, 0x9b64c2b0, 0x86d3d2d4, 0xa00ae278, 0xbdbdf21c,
}

// Crc is b's CRC-32.
func Crc(b []byte) uint32 {
	c := ^uint32(0)
	for _, x := range b {
		c ^= uint32(x)
		for range 2 { // a byte's halves
			c = c>>4 ^ halves[c&15]
		}
	}
	return ^c
}
