package sha

import "math/bits"

const rounds = 64

// beginning is the first 32 bits behind the point of the square roots of the first 8 primes.
var beginning = [8]uint32{
	0x6a09e667, 0xbb67ae85, 0x3c6ef372, 0xa54ff53a, 0x510e527f, 0x9b05688c, 0x1f83d9ab, 0x5be0cd19,
}

// cubes is the first 32 bits behind the point of the cube roots of the first 64 primes.
var cubes = [rounds]uint32{
	0x428a2f98, 0x71374491, 0xb5c0fbcf, 0xe9b5dba5, 0x3956c25b, 0x59f111f1, 0x923f82a4, 0xab1c5ed5,
	0xd807aa98, 0x12835b01, 0x243185be, 0x550c7dc3, 0x72be5d74, 0x80deb1fe, 0x9bdc06a7, 0xc19bf174,
	0xe49b69c1, 0xefbe4786, 0x0fc19dc6, 0x240ca1cc, 0x2de92c6f, 0x4a7484aa, 0x5cb0a9dc, 0x76f988da,
	0x983e5152, 0xa831c66d, 0xb00327c8, 0xbf597fc7, 0xc6e00bf3, 0xd5a79147, 0x06ca6351, 0x14292967,
	0x27b70a85, 0x2e1b2138, 0x4d2c6dfc, 0x53380d13, 0x650a7354, 0x766a0abb, 0x81c2c92e, 0x92722c85,
	0xa2bfe8a1, 0xa81a664b, 0xc24b8b70, 0xc76c51a3, 0xd192e819, 0xd6990624, 0xf40e3585, 0x106aa070,
	0x19a4c116, 0x1e376c08, 0x2748774c, 0x34b0bcb5, 0x391c0cb3, 0x4ed8aa4a, 0x5b9cca4f, 0x682e6ff3,
	0x748f82ee, 0x78a5636f, 0x84c87814, 0x8cc70208, 0x90befffa, 0xa4506ceb, 0xbef9a3f7, 0xc67178f2,
}

// behind is the state behind a chunk.
func behind(state [8]uint32, full [chunk]byte) [8]uint32 {
	a, b, c, d := state[0], state[1], state[2], state[3]
	e, f, g, h := state[4], state[5], state[6], state[7]
	for t, word := range schedule(full) {
		t1 := h + great(e, 6, 11, 25) + choice(e, f, g) + cubes[t] + word
		t2 := great(a, 2, 13, 22) + majority(a, b, c)
		h, g, f, e, d, c, b, a = g, f, e, d+t1, c, b, a, t1+t2
	}
	for i, sum := range [8]uint32{a, b, c, d, e, f, g, h} {
		state[i] += sum
	}
	return state
}

// schedule is the words of a chunk, one a round.
func schedule(full [chunk]byte) [rounds]uint32 {
	var w [rounds]uint32
	for i, b := range full {
		w[i/4] = w[i/4]<<8 | uint32(b)
	}
	for t := chunk / 4; t < rounds; t++ {
		w[t] = small(w[t-2], 17, 19, 10) + w[t-7] + small(w[t-15], 7, 18, 3) + w[t-16]
	}
	return w
}

// small is a word turned right, turned, and shifted.
func small(x uint32, one, two, shift int) uint32 {
	return turned(x, one) ^ turned(x, two) ^ x>>shift
}

// great is a word turned right three times.
func great(x uint32, one, two, three int) uint32 {
	return turned(x, one) ^ turned(x, two) ^ turned(x, three)
}

// choice is y's bits where x has a 1, z's where it has a 0.
func choice(x, y, z uint32) uint32 { return x&y ^ ^x&z }

// majority is the bits that two of three have.
func majority(x, y, z uint32) uint32 { return x&y ^ x&z ^ y&z }

// turned is a word turned right.
func turned(x uint32, by int) uint32 { return bits.RotateLeft32(x, -by) }
