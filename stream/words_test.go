package stream

import (
	"bytes"
	"crypto/hmac"
	"crypto/sha256"
	"math/big"
)

// maxNumber is the document's MaxNumber, 2^40.
const maxNumber = 1099511627776

// blockByTheWords is block i of a key's stream as the document words it.
func blockByTheWords(key []byte, i int) []byte {
	h := hmac.New(sha256.New, key)
	h.Write(big.NewInt(int64(i)).FillBytes(make([]byte, 8)))
	return h.Sum(nil)[:8]
}

// numberByTheWords is number i of a key's stream as the document words it.
func numberByTheWords(key []byte, i int) *big.Int {
	sum := big.NewInt(0)
	for _, b := range blockByTheWords(key, i) {
		sum.Mul(sum, big.NewInt(256))
		sum.Add(sum, big.NewInt(int64(b)))
	}
	return sum
}

// belowByTheWords is number i of a key's stream modulo n.
func belowByTheWords(key []byte, i, n int) int {
	return int(new(big.Int).Mod(numberByTheWords(key, i), big.NewInt(int64(n))).Int64())
}

// chosenByTheWords is what is chosen as the document words it.
func chosenByTheWords(key []byte, round, n, k int) []int {
	var row []int
	for i := 0; i < n; i++ {
		row = append(row, i)
	}
	for j := 0; j < k; j++ {
		further := j + belowByTheWords(key, 1024*round+j, n-j)
		was := row[j]
		row[j] = row[further]
		row[further] = was
	}
	return row[:k]
}

// maskedByTheWords is a block xor block i of a key's stream.
func maskedByTheWords(key []byte, i int, b []byte) []byte {
	var list []byte
	for j, other := range blockByTheWords(key, i) {
		list = append(list, b[j]^other)
	}
	return list
}

// message is so many bytes, others for each size and seed.
func message(size, seed int) []byte {
	state := uint32(size + 100000*seed)
	list := make([]byte, size)
	for i := range list {
		state = state*1664525 + 1013904223
		list[i] = byte(state >> 16)
	}
	return list
}

// blocks are so many blocks.
func blocks(many, seed int) [][]byte {
	var list [][]byte
	for i := range many {
		list = append(list, message(8, 1000*seed+i))
	}
	return list
}

// keys are keys: of no bytes, of few, and of more than a mac has room for.
func keys() [][]byte {
	list := [][]byte{nil, {}, {0}, {255}, []byte("key"), bytes.Repeat([]byte{255}, 32), make([]byte, 32)}
	for _, size := range []int{1, 16, 31, 32, 33, 63, 64, 65, 200} {
		list = append(list, message(size, 1))
	}
	return list
}

// numbers are numbers that a stream has blocks of: the edges, and each bit for itself.
func numbers() []int {
	list := []int{0, maxNumber - 1, maxNumber - 2, 3, 255, 257, 258, 65535, 1<<32 - 1, 1<<32 + 1, 0x123456789a}
	for bit := range 41 {
		list = append(list, 1<<bit)
	}
	return list
}

// beyond are numbers that no stream has blocks of.
func beyond() []int {
	return []int{-1, -2, -256, -maxNumber, -1 << 63, maxNumber + 1, maxNumber + 2, maxNumber + 1023, 1 << 41, 1 << 62, 1<<63 - 1}
}

// known is a block and a number that were worked out elsewhere.
type known struct {
	key    []byte
	i      int
	block  string
	number uint64
}

// knownBlocks are blocks that were worked out elsewhere.
func knownBlocks() []known {
	rising := make([]byte, 64)
	for i := range rising {
		rising[i] = byte(i)
	}
	return []known{
		{nil, 0, "f375180aba928884", 17542954357850540164},
		{[]byte("key"), 3, "98dcc8abecb1c71b", 11014899429377427227},
		{[]byte("key"), 258, "ded48454853ea392", 16056604070030254994},
		{rising, maxNumber, "2df136e3ec76f363", 3310487553646719843},
		{bytes.Repeat([]byte{0xff}, 32), maxNumber - 1, "dc059ec8ee39cf76", 15854252649055113078},
		{bytes.Repeat([]byte{0x0b}, 100), 1 << 32, "cfd92f45946f7dc9", 14977054011686878665},
	}
}

// chosen is what is chosen, worked out elsewhere.
type chosen struct {
	key         []byte
	round, n, k int
	want        []int
}

// knownChoices are choices that were worked out elsewhere.
func knownChoices() []chosen {
	return []chosen{
		{[]byte("key"), 0, 5, 5, []int{2, 4, 1, 0, 3}},
		{[]byte("key"), 1, 5, 5, []int{0, 3, 2, 1, 4}},
		{[]byte("key"), 0, 10, 4, []int{7, 5, 2, 3}},
		{nil, 7, 1024, 6, []int{833, 18, 31, 459, 505, 909}},
		{bytes.Repeat([]byte{0xff}, 32), 1 << 30, 20, 9, []int{5, 13, 9, 6, 0, 18, 4, 8, 11}},
		{[]byte("a"), 3, 1, 1, []int{0}},
	}
}
