package sha

import "math/bits"

// roundWords: the first 32 bits of the fractions of the cube roots of the first 64 primes.
var roundWords = [64]uint32{
	0x428a2f98, 0x71374491, 0xb5c0fbcf, 0xe9b5dba5, 0x3956c25b, 0x59f111f1, 0x923f82a4, 0xab1c5ed5,
	0xd807aa98, 0x12835b01, 0x243185be, 0x550c7dc3, 0x72be5d74, 0x80deb1fe, 0x9bdc06a7, 0xc19bf174,
	0xe49b69c1, 0xefbe4786, 0x0fc19dc6, 0x240ca1cc, 0x2de92c6f, 0x4a7484aa, 0x5cb0a9dc, 0x76f988da,
	0x983e5152, 0xa831c66d, 0xb00327c8, 0xbf597fc7, 0xc6e00bf3, 0xd5a79147, 0x06ca6351, 0x14292967,
	0x27b70a85, 0x2e1b2138, 0x4d2c6dfc, 0x53380d13, 0x650a7354, 0x766a0abb, 0x81c2c92e, 0x92722c85,
	0xa2bfe8a1, 0xa81a664b, 0xc24b8b70, 0xc76c51a3, 0xd192e819, 0xd6990624, 0xf40e3585, 0x106aa070,
	0x19a4c116, 0x1e376c08, 0x2748774c, 0x34b0bcb5, 0x391c0cb3, 0x4ed8aa4a, 0x5b9cca4f, 0x682e6ff3,
	0x748f82ee, 0x78a5636f, 0x84c87814, 0x8cc70208, 0x90befffa, 0xa4506ceb, 0xbef9a3f7, 0xc67178f2,
}

// startWords: the first 32 bits of the fractions of the square roots of the first eight primes.
func startWords() [8]uint32 {
	return [8]uint32{
		0x6a09e667, 0xbb67ae85, 0x3c6ef372, 0xa54ff53a,
		0x510e527f, 0x9b05688c, 0x1f83d9ab, 0x5be0cd19,
	}
}

// Block: the eight words behind one block of 64 bytes.
func Block(h [8]uint32, block [64]byte) [8]uint32 {
	w := schedule(block)
	// Eight variables and no array, as these stay in registers all through the rounds.
	a, b, c, d, e, f, g, last := h[0], h[1], h[2], h[3], h[4], h[5], h[6], h[7]
	for i := range 64 {
		t1 := last + highMix(e) + choice(e, f, g) + roundWords[i] + w[i]
		t2 := lowMix(a) + majority(a, b, c)
		a, b, c, d, e, f, g, last = t1+t2, a, b, c, d+t1, e, f, g
	}
	return [8]uint32{h[0] + a, h[1] + b, h[2] + c, h[3] + d, h[4] + e, h[5] + f, h[6] + g, h[7] + last}
}

// schedule: the 64 words that the rounds take in, one each.
func schedule(block [64]byte) [64]uint32 {
	var w [64]uint32
	for i := range 16 {
		w[i] = uint32(block[4*i])<<24 | uint32(block[4*i+1])<<16 | uint32(block[4*i+2])<<8 | uint32(block[4*i+3])
	}
	for i := 16; i < 64; i++ {
		s0 := turned(w[i-15], 7) ^ turned(w[i-15], 18) ^ w[i-15]>>3
		s1 := turned(w[i-2], 17) ^ turned(w[i-2], 19) ^ w[i-2]>>10
		w[i] = w[i-16] + s0 + w[i-7] + s1
	}
	return w
}

// turned: x with its lowest n bits moved to its top.
func turned(x uint32, n int) uint32 { return bits.RotateLeft32(x, -n) }

func lowMix(a uint32) uint32 { return turned(a, 2) ^ turned(a, 13) ^ turned(a, 22) }

func highMix(e uint32) uint32 { return turned(e, 6) ^ turned(e, 11) ^ turned(e, 25) }

func choice(e, f, g uint32) uint32 { return e&f ^ ^e&g }

func majority(a, b, c uint32) uint32 { return a&b ^ a&c ^ b&c }
