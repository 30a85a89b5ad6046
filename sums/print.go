package sums

import "math/bits"

const (
	block  = 64 // bytes that are mixed into the state at once
	counts = 8  // bytes at the end that tell the text's length
)

// cubeRoots: the first 32 bits behind the point of the cube roots of the first 64 primes.
var cubeRoots = [64]uint32{
	0x428a2f98, 0x71374491, 0xb5c0fbcf, 0xe9b5dba5, 0x3956c25b, 0x59f111f1, 0x923f82a4, 0xab1c5ed5,
	0xd807aa98, 0x12835b01, 0x243185be, 0x550c7dc3, 0x72be5d74, 0x80deb1fe, 0x9bdc06a7, 0xc19bf174,
	0xe49b69c1, 0xefbe4786, 0x0fc19dc6, 0x240ca1cc, 0x2de92c6f, 0x4a7484aa, 0x5cb0a9dc, 0x76f988da,
	0x983e5152, 0xa831c66d, 0xb00327c8, 0xbf597fc7, 0xc6e00bf3, 0xd5a79147, 0x06ca6351, 0x14292967,
	0x27b70a85, 0x2e1b2138, 0x4d2c6dfc, 0x53380d13, 0x650a7354, 0x766a0abb, 0x81c2c92e, 0x92722c85,
	0xa2bfe8a1, 0xa81a664b, 0xc24b8b70, 0xc76c51a3, 0xd192e819, 0xd6990624, 0xf40e3585, 0x106aa070,
	0x19a4c116, 0x1e376c08, 0x2748774c, 0x34b0bcb5, 0x391c0cb3, 0x4ed8aa4a, 0x5b9cca4f, 0x682e6ff3,
	0x748f82ee, 0x78a5636f, 0x84c87814, 0x8cc70208, 0x90befffa, 0xa4506ceb, 0xbef9a3f7, 0xc67178f2,
}

// Print: the fingerprint (SHA-256) of s, 32 bytes.
func Print(s string) string {
	// The first 32 bits behind the point of the square roots of the first eight primes.
	state := [8]uint32{
		0x6a09e667, 0xbb67ae85, 0x3c6ef372, 0xa54ff53a,
		0x510e527f, 0x9b05688c, 0x1f83d9ab, 0x5be0cd19,
	}
	whole := len(s) - len(s)%block
	for at := 0; at < whole; at += block {
		state = mix(state, s[at:at+block])
	}
	end := ending(s[whole:], uint64(len(s)))
	for at := 0; at < len(end); at += block {
		state = mix(state, end[at:at+block])
	}
	return spell(state)
}

// ending: the last blocks of a text of size bytes, of which rest stands behind the whole blocks.
func ending(rest string, size uint64) string {
	end := make([]byte, 0, 2*block)
	end = append(end, rest...)
	end = append(end, 0x80)
	for len(end)%block != block-counts {
		end = append(end, 0)
	}
	inBits := size * 8
	for shift := 56; shift >= 0; shift -= 8 {
		end = append(end, byte(inBits>>shift))
	}
	return string(end)
}

// mix: the state behind one more block.
func mix(state [8]uint32, part string) [8]uint32 {
	w := schedule(part)
	a, b, c, d := state[0], state[1], state[2], state[3]
	e, f, g, h := state[4], state[5], state[6], state[7]
	for t := 0; t < 64; t++ {
		ch := e&f ^ ^e&g
		maj := a&b ^ a&c ^ b&c
		one := h + turned(e, 6, 11, 25) + ch + cubeRoots[t] + w[t]
		two := turned(a, 2, 13, 22) + maj
		h, g, f, e = g, f, e, d+one
		d, c, b, a = c, b, a, one+two
	}
	return [8]uint32{
		state[0] + a, state[1] + b, state[2] + c, state[3] + d,
		state[4] + e, state[5] + f, state[6] + g, state[7] + h,
	}
}

// schedule: a block's 16 numbers, and the 48 that follow from them.
func schedule(part string) [64]uint32 {
	var w [64]uint32
	for t := 0; t < 16; t++ {
		at := 4 * t
		w[t] = uint32(part[at])<<24 | uint32(part[at+1])<<16 | uint32(part[at+2])<<8 | uint32(part[at+3])
	}
	for t := 16; t < 64; t++ {
		w[t] = w[t-16] + shifted(w[t-15], 7, 18, 3) + w[t-7] + shifted(w[t-2], 17, 19, 10)
	}
	return w
}

// turned: x turned right by i, by j and by k, put together without carry.
func turned(x uint32, i, j, k int) uint32 {
	return bits.RotateLeft32(x, -i) ^ bits.RotateLeft32(x, -j) ^ bits.RotateLeft32(x, -k)
}

// shifted: x turned right by i, turned by j, and shifted right by k, put together without carry.
func shifted(x uint32, i, j, k int) uint32 {
	return bits.RotateLeft32(x, -i) ^ bits.RotateLeft32(x, -j) ^ x>>k
}

// spell: the state's numbers in bytes, the highest of each first.
func spell(state [8]uint32) string {
	told := make([]byte, 0, 4*len(state))
	for _, n := range state {
		told = append(told, byte(n>>24), byte(n>>16), byte(n>>8), byte(n))
	}
	return string(told)
}
