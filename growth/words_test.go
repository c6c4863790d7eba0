package growth

import (
	"bytes"
	"crypto/sha256"
	"slices"

	"bailee/sha"
)

// leafByTheWords is a leaf's digest as the document words it.
func leafByTheWords(b []byte) sha.Digest { return sha256.Sum256(slices.Concat([]byte{0}, b)) }

// nodeByTheWords is a node's digest as the document words it.
func nodeByTheWords(left, right sha.Digest) sha.Digest {
	return sha256.Sum256(slices.Concat([]byte{1}, left[:], right[:]))
}

// splitByTheWords is the greatest power of two below n, of n above 1.
func splitByTheWords(n int) int {
	k := 1
	for 2*k < n {
		k *= 2
	}
	return k
}

// leavesByTheWords are all leaves' digests as the document words them.
func leavesByTheWords(leaves [][]byte) []sha.Digest {
	var list []sha.Digest
	for _, b := range leaves {
		list = append(list, leafByTheWords(b))
	}
	return list
}

// overByTheWords is the root of leaves' digests as the document words it.
func overByTheWords(list []sha.Digest) sha.Digest {
	switch len(list) {
	case 0:
		return sha256.Sum256(nil)
	case 1:
		return list[0]
	}
	k := splitByTheWords(len(list))
	return nodeByTheWords(overByTheWords(list[:k]), overByTheWords(list[k:]))
}

// peaksByTheWords are the roots of the frontier of leaves' digests as the document words it.
func peaksByTheWords(list []sha.Digest) []sha.Digest {
	var peaks []sha.Digest
	for bit := 62; bit >= 0; bit-- {
		if len(list)&(1<<bit) != 0 {
			peaks = append(peaks, overByTheWords(list[:1<<bit]))
			list = list[1<<bit:]
		}
	}
	return peaks
}

// rootByTheWords is the root of all leaves whose frontier has those roots, as the document words it: the first one's leaves are the split of them all.
func rootByTheWords(peaks []sha.Digest) sha.Digest {
	switch len(peaks) {
	case 0:
		return sha256.Sum256(nil)
	case 1:
		return peaks[0]
	}
	return nodeByTheWords(peaks[0], rootByTheWords(peaks[1:]))
}

// proofByTheWords is the proof of m leaves among those of the list as the document words it; whole is whether it is about all leaves from the beginning.
func proofByTheWords(list []sha.Digest, m int, whole bool) []sha.Digest {
	if m == len(list) {
		if whole {
			return nil
		}
		return []sha.Digest{overByTheWords(list)}
	}
	k := splitByTheWords(len(list))
	if m <= k {
		return append(proofByTheWords(list[:k], m, whole), overByTheWords(list[k:]))
	}
	return append(proofByTheWords(list[k:], m-k, false), overByTheWords(list[:k]))
}

// countByTheWords is how many digests the proof of m leaves among n has, as the document words it.
func countByTheWords(m, n int, whole bool) int {
	if m == n {
		if whole {
			return 0
		}
		return 1
	}
	k := splitByTheWords(n)
	if m <= k {
		return countByTheWords(m, k, whole) + 1
	}
	return countByTheWords(m-k, n-k, false) + 1
}

// madeByTheWords are both roots that a proof of the right length makes, that of m leaves and that of n, as the document words it.
func madeByTheWords(m, n int, whole bool, old sha.Digest, proof []sha.Digest) (sha.Digest, sha.Digest) {
	if m == n {
		if whole {
			return old, old
		}
		return proof[0], proof[0]
	}
	k, last := splitByTheWords(n), len(proof)-1
	if m <= k {
		first, all := madeByTheWords(m, k, whole, old, proof[:last])
		return first, nodeByTheWords(all, proof[last])
	}
	first, all := madeByTheWords(m-k, n-k, false, old, proof[:last])
	return nodeByTheWords(proof[last], first), nodeByTheWords(proof[last], all)
}

// holdsByRFC9162 tells whether a proof of fewer leaves than there are holds, as RFC 9162 words it (2.1.4.2): by going up from the last one of the first leaves.
func holdsByRFC9162(m int, old sha.Digest, n int, now sha.Digest, proof []sha.Digest) bool {
	if m&(m-1) == 0 {
		proof = slices.Concat([]sha.Digest{old}, proof)
	}
	fn, sn := m-1, n-1
	for fn&1 == 1 {
		fn, sn = fn>>1, sn>>1
	}
	if len(proof) == 0 {
		return false
	}
	fr, sr := proof[0], proof[0]
	for _, c := range proof[1:] {
		if sn == 0 {
			return false
		}
		if fn&1 == 1 || fn == sn {
			fr, sr = nodeByTheWords(c, fr), nodeByTheWords(c, sr)
			for fn&1 == 0 && fn != 0 {
				fn, sn = fn>>1, sn>>1
			}
		} else {
			sr = nodeByTheWords(sr, c)
		}
		fn, sn = fn>>1, sn>>1
	}
	return fr == old && sr == now && sn == 0
}

// message is so many bytes, others for each size and seed.
func message(size, seed int) []byte {
	state := uint32(size + 100000*seed)
	list := make([]byte, size)
	for i := range list {
		state = state*1664525 + 1013904223
		list[i] = byte(state >> 16)
	}
	return list
}

// sample are n leaves of many sizes, none of them twice but for those without bytes.
func sample(n, seed int) [][]byte {
	list := make([][]byte, n)
	for i := range list {
		list[i] = message((i*7+seed)%70, 1000*seed+i)
	}
	return list
}

// some are n digests of nothing that is known.
func some(n, seed int) []sha.Digest {
	list := make([]sha.Digest, n)
	for i := range list {
		list[i] = sha.Digest(message(32, 1000*seed+i))
	}
	return list
}

// other is a digest with one bit changed.
func other(d sha.Digest, bit int) sha.Digest {
	d[bit/8] ^= 1 << (bit % 8)
	return d
}

// counts are how many leaves there may be of a proof: the least ones, those around each power of two, and others.
func counts() []int {
	list := []int{255, 300, 341, 500, 510, 511, 512}
	for n := 1; n < 40; n++ {
		list = append(list, n)
	}
	for _, k := range []int{64, 128, 256} {
		list = append(list, k-1, k, k+1, k+k/2, k+k/2+1, k+k/4+3)
	}
	return list
}

// few are fewer of those counts, for what takes long.
func few() []int { return []int{1, 2, 3, 4, 5, 6, 7, 8, 9, 11, 13, 16, 17, 31, 33, 129, 512} }

// firsts are how many of n leaves may be the first ones: all of few; of many those at the ends, around powers of two, and others.
func firsts(n int) []int {
	var list []int
	for m := 1; m <= n; m++ {
		k := splitByTheWords(m)
		if n < 40 || m < 5 || m > n-4 || m%67 == 0 || m <= k+1 || m == 2*k-1 || m == 2*k {
			list = append(list, m)
		}
	}
	return list
}

// beyond are numbers that are no count of first leaves, whatever the number of leaves is.
func beyond() []int {
	return []int{0, -1, -2, -512, 513, 1024, 1 << 20, 1 << 32, 1<<32 + 1, 1<<63 - 1, -1 << 32, 1 - 1<<32, 1 - 1<<63, -1 << 63}
}

// ofRFC6962 are the leaves whose proofs the program that RFC 6962 is about tells in its tests.
func ofRFC6962() [][]byte {
	return [][]byte{
		{}, {0x00}, {0x10}, {0x20, 0x21}, {0x30, 0x31}, {0x40, 0x41, 0x42, 0x43},
		{0x50, 0x51, 0x52, 0x53, 0x54, 0x55, 0x56, 0x57},
		{0x60, 0x61, 0x62, 0x63, 0x64, 0x65, 0x66, 0x67, 0x68, 0x69, 0x6a, 0x6b, 0x6c, 0x6d, 0x6e, 0x6f},
	}
}

// counted are n leaves of few bytes, by a plain rule.
func counted(n int) [][]byte {
	var list [][]byte
	for i := range n {
		list = append(list, bytes.Repeat([]byte{byte(i % 256), byte(i / 256)}, i%5))
	}
	return list
}
