package stream

import (
	"bailee/api"
	"bailee/label"
	"bailee/mac"
)

// source makes what is in one key's stream, beyond MaxNumber, too.
type source struct {
	by *mac.Key
}

// sourceOf is the source of a key.
func sourceOf(key []byte) source { return source{mac.Make(key)} }

// block is block i.
func (s source) block(i int) []byte {
	whole := s.by.Of(label.Number(i))
	// No room behind the block: what else the mac has isn't the caller's.
	return whole[:api.Block:api.Block]
}

// number is number i.
func (s source) number(i int) uint64 {
	var sum uint64
	for _, b := range s.block(i) {
		sum = sum<<8 | uint64(b)
	}
	return sum
}

// below is number i modulo n, which is 1 at least.
func (s source) below(i, n int) int {
	// Half of all numbers are too great for an int: they are divided as they are.
	return int(s.number(i) % uint64(n))
}
