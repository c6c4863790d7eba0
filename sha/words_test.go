package sha

import (
	"encoding/binary"
	"math/big"
	"slices"
)

// primes are the first so many.
func primes(many int) []int64 {
	var list []int64
	for n := int64(2); len(list) < many; n++ {
		if !slices.ContainsFunc(list, func(p int64) bool { return n%p == 0 }) {
			list = append(list, n)
		}
	}
	return list
}

// behindPoint is the first 32 bits behind the point of a number's root of that power: of n times 2^(32 power) the root is 2^32 times as great, and its low 32 bits are those.
func behindPoint(n int64, power uint) uint32 {
	whole := new(big.Int).Lsh(big.NewInt(n), 32*power)
	root := new(big.Int)
	for bit := 40; bit >= 0; bit-- {
		more := new(big.Int).SetBit(root, bit, 1)
		if new(big.Int).Exp(more, big.NewInt(int64(power)), nil).Cmp(whole) <= 0 {
			root = more
		}
	}
	return uint32(root.Uint64())
}

// filled is a message with what follows it: bit by bit, as the document has it.
func filled(message []byte) []byte {
	var all []bool
	for _, b := range message {
		for i := 7; i >= 0; i-- {
			all = append(all, b>>i&1 == 1)
		}
	}
	all = append(all, true)
	for (len(all)+64)%512 != 0 {
		all = append(all, false)
	}
	list := make([]byte, len(all)/8)
	for i, bit := range all {
		if bit {
			list[i/8] |= 1 << (7 - i%8)
		}
	}
	return binary.BigEndian.AppendUint64(list, uint64(len(message))*8)
}

func rotr(n int, x uint32) uint32 { return x>>n | x<<(32-n) }

// byTheWords is a digest that is worked out as the document words it, with constants made of the primes.
func byTheWords(message []byte) Digest {
	var state [8]uint32
	for i, p := range primes(8) {
		state[i] = behindPoint(p, 2)
	}
	list := primes(64)
	for all := filled(message); len(all) > 0; all = all[64:] {
		var w [64]uint32
		for t := range w {
			if t < 16 {
				w[t] = binary.BigEndian.Uint32(all[4*t:])
				continue
			}
			x, y := w[t-15], w[t-2]
			s0 := rotr(7, x) ^ rotr(18, x) ^ x>>3
			s1 := rotr(17, y) ^ rotr(19, y) ^ y>>10
			w[t] = s1 + w[t-7] + s0 + w[t-16]
		}
		s := state
		for t := range w {
			a, b, c, e, f, g := s[0], s[1], s[2], s[4], s[5], s[6]
			t1 := s[7] + (rotr(6, e) ^ rotr(11, e) ^ rotr(25, e)) + (e&f ^ ^e&g) + behindPoint(list[t], 3) + w[t]
			t2 := (rotr(2, a) ^ rotr(13, a) ^ rotr(22, a)) + (a&b ^ a&c ^ b&c)
			s = [8]uint32{t1 + t2, a, b, c, s[3] + t1, e, f, g}
		}
		for i := range s {
			state[i] += s[i]
		}
	}
	var d Digest
	for i, word := range state {
		binary.BigEndian.PutUint32(d[4*i:], word)
	}
	return d
}

// numbers makes the same row of numbers each time.
func numbers(seed uint32) func() int {
	return func() int {
		seed = seed*1664525 + 1013904223
		return int(seed >> 8)
	}
}

// message is so many bytes, others for each size.
func message(size int) []byte {
	next := numbers(uint32(size))
	list := make([]byte, size)
	for i := range list {
		list[i] = byte(next())
	}
	return list
}

// plain are messages of one byte all over.
func plain(size int) [][]byte {
	var all [][]byte
	for _, b := range []byte{0, 1, 0x80, 0xff} {
		all = append(all, slices.Repeat([]byte{b}, size))
	}
	return all
}

// samples are messages of a size.
func samples(size int) [][]byte { return append(plain(size), message(size)) }

// sizes are all around the places where a chunk is full, or has no room for the length, and some greater ones.
func sizes() []int {
	var list []int
	for n := range 262 {
		list = append(list, n)
	}
	return append(list, 1000, 2000, 4031, 4032, 4095, 4096, 8000, 65535, 65536, 65593)
}
