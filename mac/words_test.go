package mac

import (
	"crypto/sha256"
	"slices"

	"bailee/sha"
)

// byTheWords is a mac that is worked out as the document words it.
func byTheWords(key []byte, all []byte) sha.Digest {
	if len(key) > 64 {
		d := sha256.Sum256(key)
		key = d[:]
	}
	key = slices.Concat(key, make([]byte, 64-len(key)))
	var one, other []byte
	for _, b := range key {
		one, other = append(one, b^0x36), append(other, b^0x5c)
	}
	within := sha256.Sum256(append(one, all...))
	return sha256.Sum256(append(other, within[:]...))
}

// numbers makes the same row of numbers each time.
func numbers(seed uint32) func() int {
	return func() int {
		seed = seed*1664525 + 1013904223
		return int(seed >> 8)
	}
}

// message is so many bytes, others for each size and seed.
func message(size, seed int) []byte {
	next := numbers(uint32(size + 100000*seed))
	list := make([]byte, size)
	for i := range list {
		list[i] = byte(next())
	}
	return list
}

// plain is so many bytes of one kind.
func plain(size int, b byte) []byte { return slices.Repeat([]byte{b}, size) }
