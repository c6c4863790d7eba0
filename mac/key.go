package mac

import "bailee/sha"

const (
	chunk = 64   // bytes of a key, filled up
	inner = 0x36 // what each is xored with, ahead of the parts
	outer = 0x5c // and ahead of the inner digest
)

// Key is a key, for many macs. Its zero value is the key without bytes, too.
type Key struct {
	filled [chunk]byte
}

// Make is a key.
func Make(key []byte) *Key {
	var k Key
	if len(key) > chunk {
		short := sha.Of(key)
		key = short[:]
	}
	copy(k.filled[:], key)
	return &k
}

// Of is the mac of parts.
func (k *Key) Of(parts ...[]byte) sha.Digest {
	h := sha.New().Put(k.with(inner))
	for _, part := range parts {
		h.Put(part)
	}
	within := h.Sum()
	return sha.Of(k.with(outer), within[:])
}

// with is the filled key, each byte xored.
func (k *Key) with(by byte) []byte {
	list := k.filled
	for i := range list {
		list[i] ^= by
	}
	return list[:]
}
