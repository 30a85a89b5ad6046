package room

import (
	"math/bits"

	"cooperage/api"
)

// perHome: of how many pages a home keeps the bits, from the lowest one of its first byte on.
const perHome = 8 * api.Sector

// width: bytes of a number, the highest first.
const width = 8

// times answers how often one must take size to have n at least.
func times(n, size int) int {
	return (n + size - 1) / size
}

// bitsHome answers the home that keeps a page's bit.
func bitsHome(page int) int {
	return bitsAt + page/perHome
}

// isSet answers whether bit k is 1.
func isSet(s string, k int) bool {
	return s[k/8]>>(k%8)&1 == 1
}

// flipped answers s with bit k turned.
func flipped(s string, k int) string {
	text := []byte(s)
	text[k/8] ^= 1 << (k % 8)
	return string(text)
}

// countSet answers how many of the first n bits are 1.
func countSet(s string, n int) int {
	count := 0
	for k := range n / 8 {
		count += bits.OnesCount8(s[k])
	}
	if n%8 > 0 {
		count += bits.OnesCount8(s[n/8] & (1<<(n%8) - 1))
	}
	return count
}

// firstUnset answers the first bit that is 0, or how many bits there are, if none is.
func firstUnset(s string) int {
	for k := range len(s) {
		if s[k] != 0xff {
			return 8*k + bits.TrailingZeros8(^s[k])
		}
	}
	return 8 * len(s)
}

// numberAt answers the number of place k.
func numberAt(s string, k int) uint64 {
	n := uint64(0)
	for i := range width {
		n = n<<8 | uint64(s[width*k+i])
	}
	return n
}

// withNumber answers s with the number n at place k.
func withNumber(s string, k int, n uint64) string {
	text := []byte(s)
	for i := range width {
		text[width*k+i] = byte(n >> (8 * (width - 1 - i)))
	}
	return string(text)
}
