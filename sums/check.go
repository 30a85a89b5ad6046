package sums

// nibbles: what each number of four bits comes to in four steps of the check sum.
// Four steps at once spare most of the work; eight would need a table too great to stand here.
var nibbles = [16]uint32{
	0x00000000, 0x1db71064, 0x3b6e20c8, 0x26d930ac,
	0x76dc4190, 0x6b6b51f4, 0x4db26158, 0x5005713c,
	0xedb88320, 0xf00f9344, 0xd6d6a3e8, 0xcb61b38c,
	0x9b64c2b0, 0x86d3d2d4, 0xa00ae278, 0xbdbdf21c,
}

// Check: the check sum (CRC-32) of s.
func Check(s string) uint32 {
	sum := ^uint32(0)
	for i := 0; i < len(s); i++ {
		sum ^= uint32(s[i])
		sum = sum>>4 ^ nibbles[sum&15]
		sum = sum>>4 ^ nibbles[sum&15]
	}
	return ^sum
}
