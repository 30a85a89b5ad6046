package wal

import (
	"maps"
	"slices"
	"strings"

	"cooperage/api"
)

// How a log stands on a disk; behind what is said here each sector has noughts.
// The first sector: the title, how many sectors the disk and the ring have, and from which place on groups count.
// A group in the ring: its head, with its number and how many puts it has; behind it its puts, as homes go up, each a home's number and a text, cut up without regard to where one ends.
// Each sector of a group begins with what it is, since a text that was put may look like a head.
const (
	title = "cooperage log\n"
	head  = "h"
	puts  = "p"

	wide    = 8                      // bytes of a number
	narrow  = 4                      // bytes of a home's number, or of how many puts there are
	perPut  = narrow + api.Sector    // bytes
	perPuts = api.Sector - len(puts) // bytes of puts that a sector of the ring has
)

// sizeOf answers how many sectors of the ring a group of n puts has.
func sizeOf(n int) int {
	return 1 + (perPut*n+perPuts-1)/perPuts
}

// firstText answers what the first sector of a disk of size sectors holds, if groups count from that place on.
func firstText(size, ring int, from place) string {
	list := []byte(title)
	for _, n := range []uint64{uint64(size), uint64(ring), uint64(from.at), from.number} {
		list = appendNumber(list, n, wide)
	}
	return string(list)
}

// readFirst answers from which place on groups count, and whether s is the first sector of a log with that ring on a disk of size sectors.
func readFirst(s string, size, ring int) (place, bool) {
	rest := s[len(title)+2*wide:]
	at, number := numberOf(rest[:wide]), numberOf(rest[wide:2*wide])
	if at >= uint64(ring) || number == 0 {
		return place{}, false
	}
	from := place{int(at), number}
	return from, holds(s, firstText(size, ring, from))
}

// headText answers what the head of a group of n puts holds.
func headText(number uint64, n int) string {
	list := appendNumber([]byte(head), number, wide)
	return string(appendNumber(list, uint64(n), narrow))
}

// readHead answers a group's number, how many puts it has, and whether s is the head of a group that such a ring has room for.
func readHead(s string, ring int) (uint64, int, bool) {
	rest := s[len(head):]
	number, n := numberOf(rest[:wide]), numberOf(rest[wide:wide+narrow])
	if number == 0 || n == 0 || n > uint64(ring) || sizeOf(int(n)) > ring {
		return 0, 0, false
	}
	return number, int(n), holds(s, headText(number, int(n)))
}

// putsTexts answers what the sectors behind a group's head hold.
func putsTexts(group map[int]content) []string {
	all := make([]byte, 0, perPut*len(group))
	for _, i := range slices.Sorted(maps.Keys(group)) {
		text := group[i]
		all = appendNumber(all, uint64(i), narrow)
		all = append(all, text[:]...)
	}
	var list []string
	for piece := range slices.Chunk(all, perPuts) {
		list = append(list, puts+string(piece))
	}
	return list
}

// readPuts answers the group of n puts to some of so many homes that the sectors of the list hold, and whether they hold one.
func readPuts(list []string, n, homes int) (map[int]content, bool) {
	var all []byte
	for _, s := range list {
		if !isPuts(s) {
			return nil, false
		}
		all = append(all, s[len(puts):]...)
	}
	group, last := map[int]content{}, -1
	for range n {
		i := int(numberOf(string(all[:narrow])))
		if i <= last || i >= homes {
			return nil, false
		}
		var text content
		copy(text[:], all[narrow:perPut])
		group[i] = text
		all, last = all[perPut:], i
	}
	return group, blank(string(all))
}

// isPuts answers whether s is a sector of a group's puts.
func isPuts(s string) bool {
	return strings.HasPrefix(s, puts)
}

// holds answers whether s is text, with noughts behind it.
func holds(s, text string) bool {
	return strings.HasPrefix(s, text) && blank(s[len(text):])
}

// blank answers whether s is of noughts.
func blank(s string) bool {
	return strings.Trim(s, "\x00") == ""
}

// appendNumber answers list with n behind it, in so many bytes, the greatest first.
func appendNumber(list []byte, n uint64, width int) []byte {
	for k := width - 1; k >= 0; k-- {
		list = append(list, byte(n>>(8*k)))
	}
	return list
}

// numberOf answers the number that the bytes of s are, the greatest first.
func numberOf(s string) uint64 {
	var n uint64
	for i := 0; i < len(s); i++ {
		n = n<<8 | uint64(s[i])
	}
	return n
}
