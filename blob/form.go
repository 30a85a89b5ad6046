package blob

import "cooperage/api"

// What a page of a blob holds: a byte that tells whether the blob begins there, in three bytes how many of the text's bytes stand there and behind, in two the page where it goes on (a disk has fewer than they can tell), and the text's bytes. Numbers stand with the highest byte first.
const (
	headSize = 6
	perPage  = api.Sector - headSize
)

// Kinds of pages. A page of noughts, as it was taken, is of none.
const (
	begins = 0xb0
	goesOn = 0xb1
)

// nowhere: the page where a blob goes on that ends here; nobody reads it.
const nowhere = 0

// pageText answers what a page of a kind holds, from which on s is to stand, and that goes on at the page next.
func pageText(kind byte, s string, next int) string {
	left := len(s)
	head := []byte{kind, byte(left >> 16), byte(left >> 8), byte(left), byte(next >> 8), byte(next)}
	return string(head) + s[:min(left, perPage)]
}

// kindOf answers a page's kind, or something else of one that is no blob's.
func kindOf(held string) byte {
	return held[0]
}

// leftOf answers how many of the text's bytes stand at a page and behind.
func leftOf(held string) int {
	return int(held[1])<<16 | int(held[2])<<8 | int(held[3])
}

// nextOf answers the page where it goes on.
func nextOf(held string) int {
	return int(held[4])<<8 | int(held[5])
}
