package path

import (
	"bytes"
	"crypto/sha256"
	"slices"

	"bailee/sha"
)

// leafByTheWords is a leaf's digest as the document words it.
func leafByTheWords(b []byte) sha.Digest { return sha256.Sum256(slices.Concat([]byte{0}, b)) }

// nodeByTheWords is a node's digest as the document words it.
func nodeByTheWords(left, right sha.Digest) sha.Digest {
	return sha256.Sum256(slices.Concat([]byte{1}, left[:], right[:]))
}

// splitByTheWords is the greatest power of two below n, of n above 1.
func splitByTheWords(n int) int {
	k := 1
	for 2*k < n {
		k *= 2
	}
	return k
}

// rootByTheWords is the root of leaves as the document words it.
func rootByTheWords(leaves [][]byte) sha.Digest {
	switch len(leaves) {
	case 0:
		return sha256.Sum256(nil)
	case 1:
		return leafByTheWords(leaves[0])
	}
	k := splitByTheWords(len(leaves))
	return nodeByTheWords(rootByTheWords(leaves[:k]), rootByTheWords(leaves[k:]))
}

// pathByTheWords is the path of leaf i as the document words it.
func pathByTheWords(leaves [][]byte, i int) []sha.Digest {
	if len(leaves) == 1 {
		return nil
	}
	k := splitByTheWords(len(leaves))
	if i < k {
		return append(pathByTheWords(leaves[:k], i), rootByTheWords(leaves[k:]))
	}
	return append(pathByTheWords(leaves[k:], i-k), rootByTheWords(leaves[:k]))
}

// lengthByTheWords is how many digests the path of leaf i of n has, as the document words it.
func lengthByTheWords(n, i int) int {
	if n == 1 {
		return 0
	}
	k := splitByTheWords(n)
	if i < k {
		return lengthByTheWords(k, i) + 1
	}
	return lengthByTheWords(n-k, i-k) + 1
}

// foldByTheWords is the root that a path of the right length makes of a leaf, as the document words it.
func foldByTheWords(n, i int, leaf []byte, path []sha.Digest) sha.Digest {
	if n == 1 {
		return leafByTheWords(leaf)
	}
	k, last := splitByTheWords(n), len(path)-1
	if i < k {
		return nodeByTheWords(foldByTheWords(k, i, leaf, path[:last]), path[last])
	}
	return nodeByTheWords(path[last], foldByTheWords(n-k, i-k, leaf, path[:last]))
}

// message is so many bytes, others for each size and seed.
func message(size, seed int) []byte {
	state := uint32(size + 100000*seed)
	list := make([]byte, size)
	for i := range list {
		state = state*1664525 + 1013904223
		list[i] = byte(state >> 16)
	}
	return list
}

// sample are n leaves of many sizes, none of them twice but for those without bytes.
func sample(n, seed int) [][]byte {
	list := make([][]byte, n)
	for i := range list {
		list[i] = message((i*7+seed)%70, 1000*seed+i)
	}
	return list
}

// some are n digests of nothing that is known.
func some(n, seed int) []sha.Digest {
	list := make([]sha.Digest, n)
	for i := range list {
		list[i] = sha.Digest(message(32, 1000*seed+i))
	}
	return list
}

// counts are how many leaves a tree may have: the least ones, those around each power of two, and others.
func counts() []int {
	list := []int{255, 300, 341, 500, 510, 511, 512}
	for n := 1; n < 70; n++ {
		list = append(list, n)
	}
	for _, k := range []int{128, 256} {
		list = append(list, k-1, k, k+1, k+k/2, k+k/2+1, k+k/4+3)
	}
	return list
}

// few are fewer of those counts, for what takes long.
func few() []int { return []int{1, 2, 3, 4, 5, 6, 7, 8, 9, 11, 13, 16, 17, 31, 32, 33, 129, 512} }

// places are leaves among n: all of few; of many the ones at the ends and around the splits.
func places(n int) []int {
	var list []int
	for i := range n {
		k := splitByTheWords(n)
		if n < 70 || i < 2 || i > n-3 || i%67 == 0 || i >= k-1 && i <= k+1 {
			list = append(list, i)
		}
	}
	return list
}

// beyond are numbers at which no leaf stands, whatever the number of leaves is.
func beyond() []int {
	return []int{-1, -2, -512, 512, 513, 1 << 20, 1 << 32, 1<<32 + 1, 1<<63 - 1, -1 << 32, 1 - 1<<63, -1 << 63}
}

// ofRFC6962 are the leaves whose paths the program that RFC 6962 is about tells in its tests.
func ofRFC6962() [][]byte {
	return [][]byte{
		{}, {0x00}, {0x10}, {0x20, 0x21}, {0x30, 0x31}, {0x40, 0x41, 0x42, 0x43},
		{0x50, 0x51, 0x52, 0x53, 0x54, 0x55, 0x56, 0x57},
		{0x60, 0x61, 0x62, 0x63, 0x64, 0x65, 0x66, 0x67, 0x68, 0x69, 0x6a, 0x6b, 0x6c, 0x6d, 0x6e, 0x6f},
	}
}

// counted are n leaves of few bytes, by a plain rule.
func counted(n int) [][]byte {
	var list [][]byte
	for i := range n {
		list = append(list, bytes.Repeat([]byte{byte(i % 256), byte(i / 256)}, i%5))
	}
	return list
}

// known is the path of a leaf that was worked out elsewhere.
type known struct {
	leaves [][]byte
	i      int
	want   []string
	root   string
}

// knownPaths are paths that were worked out elsewhere, level by level from the leaves up; the first ones are RFC 6962's usual ones.
func knownPaths() []known {
	rfc := ofRFC6962()
	const (
		ofNone    = "6e340b9cffb37a989ca544e6bb780a2c78901d3fb33738768511a30617afa01d"
		rootOf8   = "5dc9da79a70659a9ad559cb701ded9a2ab9d823aad2f4960cfe370eff4604328"
		countedOf = "77f7ad69ebd1a8c8296adfb8805dbd08156a06380574791f997898c591711fa9" // 8
	)
	return []known{
		{rfc[:1], 0, nil, ofNone},
		{rfc, 0, []string{"96a296d224f285c67bee93c30f8a309157f0daa35dc5b87e410b78630a09cfc7", "5f083f0a1a33ca076a95279832580db3e0ef4584bdff1f54c8a360f50de3031e", "6b47aaf29ee3c2af9af889bc1fb9254dabd31177f16232dd6aab035ca39bf6e4"}, rootOf8},
		{rfc, 5, []string{"bc1a0643b12e4d2d7c77918f44e0f4f79a838b6cf9ec5b5c283e1f4d88599e6b", "ca854ea128ed050b41b35ffc1b87b8eb2bde461e9e3b5596ece6b9d5975a0ae0", "d37ee418976dd95753c1c73862b9398fa2a2cf9b4ff0fdfe8b30cd95209614b7"}, rootOf8},
		{rfc[:3], 2, []string{"fac54203e7cc696cf0dfcb42c92a1d9dbaf70ad9e621f4bd8d98662f00e3c125"}, "aeb6bcfe274b70a14fb067a5e5578264db0fa9b51af5e0ba159158f329e06e77"},
		{rfc[:5], 1, []string{ofNone, "5f083f0a1a33ca076a95279832580db3e0ef4584bdff1f54c8a360f50de3031e", "bc1a0643b12e4d2d7c77918f44e0f4f79a838b6cf9ec5b5c283e1f4d88599e6b"}, "4e3bbb1f7b478dcfe71fb631631519a3bca12c9aefca1612bfce4c13a86264d4"},
		{counted(2), 0, []string{"faee935763044f124d7526755a5058a33f9402a595994d59eddd4be8546ff201"}, "fe8c057e0ef4d3da94fac8d2301bb58b9199221712662e7b344b270182294627"},
		{counted(2), 1, []string{ofNone}, "fe8c057e0ef4d3da94fac8d2301bb58b9199221712662e7b344b270182294627"},
		{counted(6), 4, []string{ofNone, "4089e173366bc4d6052c55f2fb2324e7e088648420dc6f9f4f88d96aacc601bd"}, "635836b05ddb7b1660450a9093c099bca03e503f523f6328291fbd459bb853ee"},
		{counted(7), 6, []string{"9876eedcf6a149c30a2647c0bf9995e5abb7ce51822386013511b528ac46a029", "4089e173366bc4d6052c55f2fb2324e7e088648420dc6f9f4f88d96aacc601bd"}, "fdd1d1d209a7fdb483c8a2a9298bd87b1de49da10b400b768aa16bc4970e6c3a"},
		{counted(9), 8, []string{countedOf}, "551cd61d77b0ebcde701573015e96811e0b2ffa10995b2587d5cb7c2733e3169"},
		{counted(13), 11, []string{ofNone, "bbb29344b21e420934c766dae790915814ccef3994db864dbb76483c5230ba90", "13b5142c1794817faf8a7586d5200e58d140aaeed523059f68bd101584e98d0e", countedOf}, "d859a3ed7a09a2e69956e23bff0db55b2a15eb2d393c79ea13be013a1bbcbeaa"},
		{counted(100), 97, []string{"a8f7424be040c22249dfe7f7541eb32233d1408e7f25ee6515407bf31866b09f", "541d4bdecb789e65536b2cafa39d9704cb575455e07c28e1062cab94f1baf95e", "2c86d821f3c28ca1dee42a5a82c2534ebb976904d09368b6df07b4ca46d1ecf6", "4267e20579925ab9cafae769400047069ff3ed7687d8afbea7b1a27ec41714ad"}, "81b619c2dbdee5be429ca9c0a7305db591cede087020bf9fe351060e76b0fb52"},
	}
}

// long is the digest of a path's bytes that was worked out elsewhere.
type long struct {
	n, i, length int
	want         string
}

// longPaths are the paths of counted leaves, worked out elsewhere.
func longPaths() []long {
	return []long{
		{255, 254, 7, "8920a032acc929f7a6000d71055fe16c439dc8c4f66049e3959d553dd0ee7421"},
		{257, 256, 1, "b78fe9a419c635f5b105965f14aa97110076f1c1d1147ce0d2e9bcfb6699f112"},
		{511, 300, 9, "95fd4b75eb9c7d1a30b6cd68441ef8c7159fbdc37a6a7f1d10abc57895bc5435"},
		{512, 0, 9, "50bd1322feb61ccad02fc781273892ed40064b4c1d3a5e4b51d48f0404b2bc71"},
		{512, 511, 9, "b1122611f46b40ced79a9d5856f394c0e0971f53908b6250d96698d7a7122d36"},
		{512, 341, 9, "c7fd1dd5caea5671636ecdefb26aec3ddcc5f0477e5139a5c7bbcb2af89b708f"},
	}
}
