package tree

import (
	"bytes"
	"crypto/sha256"
	"slices"

	"bailee/sha"
)

// leafByTheWords is a leaf's digest as the document words it.
func leafByTheWords(b []byte) sha.Digest {
	return sha256.Sum256(slices.Concat([]byte{0}, b))
}

// nodeByTheWords is a node's digest as the document words it.
func nodeByTheWords(left, right sha.Digest) sha.Digest {
	return sha256.Sum256(slices.Concat([]byte{1}, left[:], right[:]))
}

// splitByTheWords is the greatest power of two below n, of n above 1.
func splitByTheWords(n int) int {
	k := uint64(1)
	for 2*k < uint64(n) {
		k *= 2
	}
	return int(k)
}

// overByTheWords is the root of leaves' digests as the document words it.
func overByTheWords(list []sha.Digest) sha.Digest {
	switch len(list) {
	case 0:
		return sha256.Sum256(nil)
	case 1:
		return list[0]
	}
	k := splitByTheWords(len(list))
	return nodeByTheWords(overByTheWords(list[:k]), overByTheWords(list[k:]))
}

// leavesByTheWords are all leaves' digests as the document words them.
func leavesByTheWords(leaves [][]byte) []sha.Digest {
	var list []sha.Digest
	for _, b := range leaves {
		list = append(list, leafByTheWords(b))
	}
	return list
}

// rootByTheWords is the root of leaves as the document words it.
func rootByTheWords(leaves [][]byte) sha.Digest { return overByTheWords(leavesByTheWords(leaves)) }

// depthByTheWords is how many nodes stand above the deepest of n leaves. What was worked out stays in a map: both sides of a split are often alike.
func depthByTheWords(known map[int]int, n int) int {
	if n < 2 {
		return 0
	}
	if d, ok := known[n]; ok {
		return d
	}
	k := splitByTheWords(n)
	known[n] = 1 + max(depthByTheWords(known, k), depthByTheWords(known, n-k))
	return known[n]
}

// message is so many bytes, others for each size and seed.
func message(size, seed int) []byte {
	state := uint32(size + 100000*seed)
	list := make([]byte, size)
	for i := range list {
		state = state*1664525 + 1013904223
		list[i] = byte(state >> 16)
	}
	return list
}

// sample are n leaves of many sizes, none of them twice but for those without bytes.
func sample(n, seed int) [][]byte {
	list := make([][]byte, n)
	for i := range list {
		list[i] = message((i*7+seed)%70, 1000*seed+i)
	}
	return list
}

// alike are n leaves that are all the same.
func alike(n int, b []byte) [][]byte { return slices.Repeat([][]byte{b}, n) }

// counts are how many leaves a tree may have: the least ones, those around each power of two, and others.
func counts() []int {
	list := []int{3000}
	for n := range 80 {
		list = append(list, n)
	}
	for k := 128; k <= 1024; k *= 2 {
		list = append(list, k-1, k, k+1, k+k/2, k+k/2+1, k+k/4+3)
	}
	return list
}

// least are numbers of leaves that have no split.
func least() []int {
	list := []int{1, 0}
	for bit := range 64 {
		list = append(list, -1<<bit, -(1<<bit - 1))
	}
	return list
}

// most are numbers of leaves: each power of two, and those around it.
func most() []int {
	list := []int{1<<63 - 1, 1<<63 - 2, 1<<62 + 1<<61, 1000000007, 1 << 40, 1<<40 + 12345}
	for bit := 2; bit < 63; bit++ {
		list = append(list, 1<<bit-1, 1<<bit, 1<<bit+1, 1<<bit+1<<(bit-1))
	}
	return list
}

// ofRFC6962 are the leaves whose roots the program that RFC 6962 is about tells in its tests.
func ofRFC6962() [][]byte {
	return [][]byte{
		{}, {0x00}, {0x10}, {0x20, 0x21}, {0x30, 0x31}, {0x40, 0x41, 0x42, 0x43},
		{0x50, 0x51, 0x52, 0x53, 0x54, 0x55, 0x56, 0x57},
		{0x60, 0x61, 0x62, 0x63, 0x64, 0x65, 0x66, 0x67, 0x68, 0x69, 0x6a, 0x6b, 0x6c, 0x6d, 0x6e, 0x6f},
	}
}

// rootsOfRFC6962 are the roots of the first 0 to 8 of those.
func rootsOfRFC6962() []string {
	return []string{
		"e3b0c44298fc1c149afbf4c8996fb92427ae41e4649b934ca495991b7852b855",
		"6e340b9cffb37a989ca544e6bb780a2c78901d3fb33738768511a30617afa01d",
		"fac54203e7cc696cf0dfcb42c92a1d9dbaf70ad9e621f4bd8d98662f00e3c125",
		"aeb6bcfe274b70a14fb067a5e5578264db0fa9b51af5e0ba159158f329e06e77",
		"d37ee418976dd95753c1c73862b9398fa2a2cf9b4ff0fdfe8b30cd95209614b7",
		"4e3bbb1f7b478dcfe71fb631631519a3bca12c9aefca1612bfce4c13a86264d4",
		"76e67dadbcdf1e10e1b74ddc608abd2f98dfb16fbce75277b5232a127f2087ef",
		"ddb89be403809e325750d3d263cd78929c2942b7942a34b77e122c9594a74c8c",
		"5dc9da79a70659a9ad559cb701ded9a2ab9d823aad2f4960cfe370eff4604328",
	}
}

// counted are n leaves of few bytes, by a plain rule.
func counted(n int) [][]byte {
	var list [][]byte
	for i := range n {
		list = append(list, bytes.Repeat([]byte{byte(i % 256), byte(i / 256)}, i%5))
	}
	return list
}

// known is a root that was worked out elsewhere.
type known struct {
	n    int
	want string
}

// knownRoots are roots of counted leaves that were worked out elsewhere.
func knownRoots() []known {
	return []known{
		{9, "551cd61d77b0ebcde701573015e96811e0b2ffa10995b2587d5cb7c2733e3169"},
		{17, "e4d49337ad23899b2e4c48dcd6ab6cee195067af89198ad01e73756159b971d1"},
		{100, "81b619c2dbdee5be429ca9c0a7305db591cede087020bf9fe351060e76b0fb52"},
		{255, "ba0b53a14738387eba348dcccddf069b4e0d775d92161f717fa0c89ad552c9f9"},
		{512, "8af9c658044f7245759b63e45023eeefdae635454d67a5388027f87f5928dda2"},
		{513, "b7e547fd2ed0f486d00e99c762c45c82f9fcd67f980b572bdcbd5b58b3d77f3a"},
		{1000, "694934533e45deb33812f9f64100b264bb60d272a81b7fd5ed3ac27a6f75d799"},
	}
}
