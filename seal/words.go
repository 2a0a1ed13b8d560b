package seal

import (
	"math/bits"

	"zoetrope/api"
)

// words are what the sum of whole blocks is kept in.
type words [8]uint32

// start are the words ahead of the first block: of the square roots of the first eight primes the first 32 bits behind the point.
var start = words{
	0x6a09e667, 0xbb67ae85, 0x3c6ef372, 0xa54ff53a, 0x510e527f, 0x9b05688c, 0x1f83d9ab, 0x5be0cd19,
}

// rounds are what is added round by round: of the cube roots of the first 64 primes the first 32 bits behind the point.
var rounds = [blockSize]uint32{
	0x428a2f98, 0x71374491, 0xb5c0fbcf, 0xe9b5dba5, 0x3956c25b, 0x59f111f1, 0x923f82a4, 0xab1c5ed5,
	0xd807aa98, 0x12835b01, 0x243185be, 0x550c7dc3, 0x72be5d74, 0x80deb1fe, 0x9bdc06a7, 0xc19bf174,
	0xe49b69c1, 0xefbe4786, 0x0fc19dc6, 0x240ca1cc, 0x2de92c6f, 0x4a7484aa, 0x5cb0a9dc, 0x76f988da,
	0x983e5152, 0xa831c66d, 0xb00327c8, 0xbf597fc7, 0xc6e00bf3, 0xd5a79147, 0x06ca6351, 0x14292967,
	0x27b70a85, 0x2e1b2138, 0x4d2c6dfc, 0x53380d13, 0x650a7354, 0x766a0abb, 0x81c2c92e, 0x92722c85,
	0xa2bfe8a1, 0xa81a664b, 0xc24b8b70, 0xc76c51a3, 0xd192e819, 0xd6990624, 0xf40e3585, 0x106aa070,
	0x19a4c116, 0x1e376c08, 0x2748774c, 0x34b0bcb5, 0x391c0cb3, 0x4ed8aa4a, 0x5b9cca4f, 0x682e6ff3,
	0x748f82ee, 0x78a5636f, 0x84c87814, 0x8cc70208, 0x90befffa, 0xa4506ceb, 0xbef9a3f7, 0xc67178f2,
}

// turned is a word, turned to the right by three counts, and the three of them held against each other bit by bit.
func turned(n uint32, a, b, c int) uint32 {
	return bits.RotateLeft32(n, -a) ^ bits.RotateLeft32(n, -b) ^ bits.RotateLeft32(n, -c)
}

// pushed is turned, but that the third time the bits that leave on the right don't come back on the left.
func pushed(n uint32, a, b, c int) uint32 {
	return bits.RotateLeft32(n, -a) ^ bits.RotateLeft32(n, -b) ^ n>>c
}

// stirred are the words behind one more block.
func (s words) stirred(block *[blockSize]byte) words {
	w := schedule(block)
	a, b, c, d, e, f, g, h := s[0], s[1], s[2], s[3], s[4], s[5], s[6], s[7]
	for i, n := range rounds {
		choice := e&f ^ ^e&g
		most := a&b ^ a&c ^ b&c
		t := h + turned(e, 6, 11, 25) + choice + n + w[i]
		a, b, c, d, e, f, g, h = t+turned(a, 2, 13, 22)+most, a, b, c, d+t, e, f, g
	}
	last := words{a, b, c, d, e, f, g, h}
	for i, n := range last {
		s[i] += n
	}
	return s
}

// schedule is the words that come in round by round: first those of a block, then such as are made of words ahead of them.
func schedule(block *[blockSize]byte) [blockSize]uint32 {
	var w [blockSize]uint32
	for i := range blockSize / wordSize {
		for _, b := range block[i*wordSize : (i+1)*wordSize] {
			w[i] = w[i]<<8 | uint32(b)
		}
	}
	for i := blockSize / wordSize; i < blockSize; i++ {
		w[i] = pushed(w[i-2], 17, 19, 10) + w[i-7] + pushed(w[i-15], 7, 18, 3) + w[i-16]
	}
	return w
}

// digest are the words as bytes, the highest byte first.
func (s words) digest() api.Digest {
	var d api.Digest
	for i, n := range s {
		for j := range wordSize {
			d[i*wordSize+j] = byte(n >> (8 * (wordSize - 1 - j)))
		}
	}
	return d
}
