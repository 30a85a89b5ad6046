package pack

import (
	"strings"

	"cooperage/api"
)

// Letters of kinds.
const (
	long   = 'n' // a number
	half   = 'h' // one below 2^32
	single = 'b' // one below 256
	text   = 't' // a text, behind its length
	rest   = 'r' // a text: all that is left
)

// Bytes of numbers, the highest one first, and the greatest length of a text that stands behind it.
const (
	longSize   = 8
	halfSize   = 4
	singleSize = 1
	lengthSize = 2
	longest    = 1<<(8*lengthSize) - 1
)

// partEnd: what ends a part of a key. No byte is below it, so that a text whose beginning another one is stands above that one, whatever stands behind.
const partEnd = "\x00"

// sizeOf answers how many bytes a number of a kind has; 0 of a kind that is none of a number.
func sizeOf(kind byte) int {
	switch kind {
	case long:
		return longSize
	case half:
		return halfSize
	case single:
		return singleSize
	}
	return 0
}

// fits answers whether field is one of a kind.
func fits(kind byte, field api.Field) bool {
	switch kind {
	case text:
		return field.N == 0 && len(field.S) <= longest
	case rest:
		return field.N == 0
	}
	return field.S == "" && field.N>>(8*sizeOf(kind)) == 0
}

// appendField answers list with the bytes of a field of a kind behind it.
func appendField(list []byte, kind byte, field api.Field) []byte {
	switch kind {
	case text:
		list = appendNumber(list, uint64(len(field.S)), lengthSize)
		return append(list, field.S...)
	case rest:
		return append(list, field.S...)
	}
	return appendNumber(list, field.N, sizeOf(kind))
}

// firstField answers the field of a kind whose bytes s begins with, and what stands behind them.
func firstField(kind byte, s string) (api.Field, string, bool) {
	switch kind {
	case text:
		length, behind, ok := split(s, lengthSize)
		if !ok {
			return api.Field{}, "", false
		}
		first, behind, ok := split(behind, int(numberOf(length)))
		return api.Field{S: strings.Clone(first)}, behind, ok
	case rest:
		return api.Field{S: strings.Clone(s)}, "", true
	}
	number, behind, ok := split(s, sizeOf(kind))
	return api.Field{N: numberOf(number)}, behind, ok
}

// split answers the first n bytes of s and those behind them, and whether there are so many.
func split(s string, n int) (string, string, bool) {
	if len(s) < n {
		return "", "", false
	}
	return s[:n], s[n:], true
}

// appendNumber answers list with n behind it, in so many bytes, the highest one first.
func appendNumber(list []byte, n uint64, size int) []byte {
	for k := size - 1; k >= 0; k-- {
		list = append(list, byte(n>>(8*k)))
	}
	return list
}

// numberOf answers the number that the bytes of s are, the highest one first.
func numberOf(s string) uint64 {
	n := uint64(0)
	for i := 0; i < len(s); i++ {
		n = n<<8 | uint64(s[i])
	}
	return n
}
