package sha

const (
	chunk  = 64 // bytes that go into the state at once
	length = 8  // bytes of the message's length
)

// Hash is bytes that go on. Its zero value is a hash of which nothing was put, too.
type Hash struct {
	state [8]uint32
	rest  [chunk]byte // what came behind the last full chunk
	count int
}

// New is a hash of which nothing was put.
func New() *Hash { return &Hash{} }

// Put puts bytes.
func (h *Hash) Put(b []byte) *Hash {
	if h.count == 0 {
		h.state = beginning
	}
	for len(b) > 0 {
		n := copy(h.rest[h.count%chunk:], b)
		h.count += n
		if h.count%chunk == 0 {
			h.state = behind(h.state, h.rest)
		}
		b = b[n:]
	}
	return h
}

// Sum is the digest of all that was put.
func (h *Hash) Sum() Digest {
	// The end goes into a copy: more may be put into the hash itself.
	whole := *h
	whole.Put(end(h.count))
	var d Digest
	for i, word := range whole.state {
		for j := range 4 {
			d[4*i+j] = byte(word >> (24 - 8*j))
		}
	}
	return d
}

// Count is how many bytes were put.
func (h *Hash) Count() int { return h.count }

// end is what follows so many bytes: a bit 1, noughts, and their length in bits, up to a full chunk.
func end(count int) []byte {
	size := chunk - count%chunk
	if size < 1+length {
		size += chunk
	}
	list := make([]byte, size)
	list[0] = 0x80
	for i, left := size-1, uint64(count)*8; left > 0; i, left = i-1, left>>8 {
		list[i] = byte(left)
	}
	return list
}
