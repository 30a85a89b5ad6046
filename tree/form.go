package tree

import (
	"strings"

	"cooperage/api"
)

// What a page of a map holds: a byte that tells its level, one that tells how many pairs there are, and the pairs: in a byte each how long the key and the value are, then these two. At a leaf the pairs are the map's own. Above, a pair's value is the number of a page below, in two bytes (a disk has fewer pages than they can tell), the highest one first; its key is above all that stand below the pair ahead, and not above any that stands below its own. The first pair's key is left out there, since a pair of the node above tells it.
const (
	headSize = 2
	pairHead = 2
	perPage  = api.Sector - headSize
	pageSize = 2
)

// leaf: the first byte of a leaf; that of a node above is greater by its level. A page of noughts, as it was taken, is none, and neither is a blob's.
const leaf = 0xc0

// topLevel: since neighbours never fit in one page together, a map of more levels would take more pages than a disk has.
const topLevel = 15

// nowhere: the page of a node that has none yet.
const nowhere = -1

// pageText answers what a node's page holds.
func pageText(n *node) string {
	text := []byte{leaf + byte(n.level), byte(len(n.items))}
	for _, p := range n.items {
		text = append(text, byte(len(p.Key)), byte(len(p.Val)))
		text = append(text, p.Key...)
		text = append(text, p.Val...)
	}
	return string(text)
}

// nodeOf answers the node that a page holds, if it holds one.
func nodeOf(held string) (*node, bool) {
	n, rest := &node{level: int(held[0]) - leaf}, held[headSize:]
	for range int(held[1]) {
		pair, size := pairOf(rest)
		if size > len(rest) {
			return nil, false
		}
		n.items, rest = append(n.items, item{Pair: pair}), rest[size:]
	}
	return n, n.isSound() && strings.Trim(rest, "\x00") == ""
}

// pairOf answers the pair that a text begins with, and how many bytes it takes; more than there are, if it isn't whole.
func pairOf(text string) (api.Pair, int) {
	if len(text) < pairHead {
		return api.Pair{}, pairHead
	}
	val := pairHead + int(text[0])
	end := val + int(text[1])
	if end > len(text) {
		return api.Pair{}, end
	}
	return api.Pair{Key: text[pairHead:val], Val: text[val:end]}, end
}

// pageVal answers a page's number as a value.
func pageVal(page int) string {
	return string([]byte{byte(page >> 8), byte(page)})
}

// pageOf answers the page whose number a value is.
func pageOf(val string) int {
	return int(val[0])<<8 | int(val[1])
}
