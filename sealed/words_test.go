package sealed

import (
	"bytes"
	"crypto/hmac"
	"crypto/sha256"
	"math"
	"math/big"
	"slices"

	"bailee/params"
	"bailee/sha"
)

// maxNumber is the document's MaxNumber, 2^40.
const maxNumber = 1099511627776

// macOf is a mac of parts, one behind the other.
func macOf(key []byte, parts ...[]byte) []byte {
	h := hmac.New(sha256.New, key)
	for _, part := range parts {
		h.Write(part)
	}
	return h.Sum(nil)
}

// eight is a number as eight bytes, the high one first.
func eight(n int) []byte { return big.NewInt(int64(n)).FillBytes(make([]byte, 8)) }

// keyOf is the key of a label, as the document words it.
func keyOf(master []byte, label string, number int) []byte {
	return macOf(master, []byte(label), []byte{0}, eight(number))
}

// times is the field's product, bit by bit.
func times(a, b byte) byte {
	product := 0
	for bit := range 8 {
		if b>>bit&1 == 1 {
			product ^= int(a) << bit
		}
	}
	for bit := 14; bit >= 8; bit-- {
		if product>>bit&1 == 1 {
			product ^= 0x11d << (bit - 8)
		}
	}
	return byte(product)
}

// products are all products, worked out once.
var products = func() *[256][256]byte {
	var table [256][256]byte
	for a := range 256 {
		for b := range 256 {
			table[a][b] = times(byte(a), byte(b))
		}
	}
	return &table
}()

// generator is the product of (x + alpha to the power j), of 32 of them, the highest coefficient first.
func generator() []byte {
	made, root := []byte{1}, byte(1)
	for range 32 {
		next := append(slices.Clone(made), 0)
		for i, c := range made {
			next[i+1] ^= times(c, root)
		}
		made, root = next, times(root, 2)
	}
	return made
}

// parityOf are the 32 symbols behind others in their code word: what is left of them by the generator.
func parityOf(data []byte) []byte {
	left := slices.Concat(data, make([]byte, 32))
	for i := range data {
		lead := left[i]
		for k, g := range generator32 {
			left[i+k] ^= products[lead][g]
		}
	}
	return left[len(data):]
}

// generator32 is the generator, worked out once.
var generator32 = generator()

// blocksOf are all blocks of a file, as the document words them.
func blocksOf(file []byte) [][]byte {
	padded := slices.Clone(file)
	for len(padded) == 0 || len(padded)%8 != 0 {
		padded = append(padded, 0)
	}
	var all [][]byte
	for len(padded) > 0 {
		group := padded[:min(len(padded), 223*8)]
		padded = padded[len(group):]
		behind := make([][]byte, 32)
		for j := range 8 {
			var column []byte
			for i := j; i < len(group); i += 8 {
				column = append(column, group[i])
			}
			for i, symbol := range parityOf(column) {
				behind[i] = append(behind[i], symbol)
			}
		}
		for block := range slices.Chunk(group, 8) {
			all = append(all, slices.Clone(block))
		}
		all = append(all, behind...)
	}
	return all
}

// placeOf is the place of number i of n, as the document words it.
func placeOf(key []byte, n, i int) int {
	w := 1
	for 1<<(2*w) < n {
		w++
	}
	for x := i; ; {
		left, right := x>>w, x%(1<<w)
		for round := range 4 {
			number := new(big.Int).SetBytes(macOf(key, []byte{byte(round)}, eight(right))[:8])
			left, right = right, left^int(number.Mod(number, big.NewInt(1<<w)).Int64())
		}
		if x = left<<w | right; x < n {
			return x
		}
	}
}

// xored is a block xor another one.
func xored(a, b []byte) []byte {
	var list []byte
	for j := range a {
		list = append(list, a[j]^b[j])
	}
	return list
}

// tagOf is the tag of a block at a place, as the document words it.
func tagOf(master []byte, number, place int, block []byte) []byte {
	return macOf(keyOf(master, "tag", number), eight(place), block)[:8]
}

// whole is what is stored, by place, and the places of the blocks, by number; the first ones are the file's.
type whole struct {
	stored [][]byte
	places []int
	plain  int
}

// sealedOf is a file that is sealed, as the document words it.
func sealedOf(master []byte, number int, file []byte, p params.Params) whole {
	blocks := blocksOf(file)
	plain := len(blocks)
	for i := range blocks {
		blocks[i] = xored(blocks[i], macOf(keyOf(master, "mask", number), eight(i))[:8])
	}
	for j := range p.Sentinels {
		blocks = append(blocks, macOf(keyOf(master, "sentinel", number), eight(j))[:8])
	}
	made := whole{make([][]byte, len(blocks)), nil, plain}
	for i, block := range blocks {
		place := placeOf(keyOf(master, "place", number), len(blocks), i)
		made.places = append(made.places, place)
		made.stored[place] = slices.Concat(block, tagOf(master, number, place, block))
	}
	return made
}

// rootOf is the root of leaves, as the document words it.
func rootOf(leaves [][]byte) sha.Digest {
	if len(leaves) == 1 {
		return sha256.Sum256(slices.Concat([]byte{0}, leaves[0]))
	}
	k := 1
	for 2*k < len(leaves) {
		k *= 2
	}
	left, right := rootOf(leaves[:k]), rootOf(leaves[k:])
	return sha256.Sum256(slices.Concat([]byte{1}, left[:], right[:]))
}

// message is so many bytes, others for each size and seed.
func message(size, seed int) []byte {
	state := uint32(size + 100000*seed)
	list := make([]byte, size)
	for i := range list {
		state = state*1664525 + 1013904223
		list[i] = byte(state >> 16)
	}
	return list
}

// of are right parameters of so many bytes and sentinels.
func of(size, sentinels int) params.Params {
	return params.Params{Size: size, Sentinels: sentinels, Spots: 1, Period: 1, Patience: 1}
}

// rising are the bytes 0 to 63.
func rising() []byte {
	list := make([]byte, 64)
	for i := range list {
		list[i] = byte(i)
	}
	return list
}

// handed is a file, and how it is handed over.
type handed struct {
	master []byte
	number int
	file   []byte
	p      params.Params
}

// sample are files of many sizes, by many keys, for many numbers, with few and many sentinels.
func sample() []handed {
	masters := [][]byte{make([]byte, 16), []byte("sixteen bytes .."), bytes.Repeat([]byte{255}, 32), rising(), message(63, 1), message(17, 2)}
	numbers := []int{0, 1, 7, 255, 256, 1 << 32, maxNumber - 1, maxNumber}
	var list []handed
	for i, size := range []int{0, 1, 7, 8, 9, 15, 16, 17, 100, 255, 256, 257, 1000, 1775, 1776, 1777, 1783, 1784, 1785, 1792, 1793, 1999, 2000} {
		for _, sentinels := range []int{0, 1 + i%7, 8} {
			k := len(list)
			list = append(list, handed{masters[k%len(masters)], numbers[k%len(numbers)], message(size, k), of(size, sentinels)})
		}
	}
	return append(list,
		handed{masters[0], 0, make([]byte, 2000), of(2000, 8)},
		handed{masters[1], 3, bytes.Repeat([]byte{255}, 1784), of(1784, 0)})
}

// few are fewer of those, for what takes long.
func few() []handed {
	return []handed{
		{make([]byte, 16), 0, nil, of(0, 0)},
		{[]byte("sixteen bytes .."), 7, []byte("hello, world"), of(12, 4)},
		{rising(), maxNumber, message(1784, 5), of(1784, 8)},
		{message(33, 3), 258, message(2000, 6), of(2000, 8)},
	}
}

// far are numbers beyond all bounds, and around nought.
func far() []int {
	return []int{math.MinInt, math.MinInt + 1, -maxNumber, -1 << 32, -512, -256, -2, -1, 1 << 16, 1 << 32, 1<<32 + 1, maxNumber + 2, math.MaxInt - 1, math.MaxInt}
}
