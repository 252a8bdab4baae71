// Package crc is layer 2: see shared/doc/02-crc.md.
package crc

// nibbles has, for each value of four bits, what dividing these by the
// polynomial with the turned bits 0xedb88320 leaves: four bits at a time are
// quicker than one, and a table for all eight would be too long to write out.
var nibbles = [16]uint32{
	0x00000000, 0x1db71064, 0x3b6e20c8, 0x26d930ac,
	0x76dc4190, 0x6b6b51f4, 0x4db26158, 0x5005713c,
	0xedb88320, 0xf00f9344, 0xd6d6a3e8, 0xcb61b38c,
	0x9b64c2b0, 0x86d3d2d4, 0xa00ae278, 0xbdbdf21c,
}

// Sum gives the check sum of texts, one behind the other.
func Sum(parts ...[]byte) uint32 { return On(0, parts...) }

// On goes on with a check sum.
func On(sum uint32, parts ...[]byte) uint32 {
	// All bits were turned round at the end of sum; turned back they are
	// what the division had left there. Of no bytes that is all bits set.
	rest := ^sum
	for _, part := range parts {
		for _, b := range part {
			rest ^= uint32(b)
			rest = rest>>4 ^ nibbles[rest&15]
			rest = rest>>4 ^ nibbles[rest&15]
		}
	}
	return ^rest
}
