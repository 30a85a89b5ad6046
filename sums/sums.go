// Package sums tells fingerprints and check sums of texts, and bytes in digits.
package sums

import "strings"

const sixteen = "0123456789abcdef"

// Hex: each byte of s in two digits of base 16.
func Hex(s string) string {
	digits := make([]byte, 0, 2*len(s))
	for i := 0; i < len(s); i++ {
		digits = append(digits, sixteen[s[i]>>4], sixteen[s[i]&15])
	}
	return string(digits)
}

// Raw: the bytes whose Hex is digits, and whether there are any such.
func Raw(digits string) (string, bool) {
	if len(digits)%2 != 0 {
		return "", false
	}
	raw := make([]byte, 0, len(digits)/2)
	for i := 0; i < len(digits); i += 2 {
		high := strings.IndexByte(sixteen, digits[i])
		low := strings.IndexByte(sixteen, digits[i+1])
		if high < 0 || low < 0 {
			return "", false
		}
		raw = append(raw, byte(high<<4|low))
	}
	return string(raw), true
}
