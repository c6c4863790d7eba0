package shuffle

import (
	"bytes"
	"crypto/hmac"
	"crypto/sha256"
	"math/big"
)

// mostPlaces is the document's 2^20.
const mostPlaces = 1048576

// power is a number to a power.
func power(base, to int) int {
	product := 1
	for range to {
		product *= base
	}
	return product
}

// bitsByTheWords is w for n places as the document words it.
func bitsByTheWords(n int) int {
	for w := 1; ; w++ {
		if power(4, w) >= n {
			return w
		}
	}
}

// mixByTheWords is the round function as the document words it.
func mixByTheWords(key []byte, w, round, half int) int {
	h := hmac.New(sha256.New, key)
	h.Write([]byte{byte(round)})
	h.Write(big.NewInt(int64(half)).FillBytes(make([]byte, 8)))
	number := new(big.Int).SetBytes(h.Sum(nil)[:8])
	return int(number.Mod(number, big.NewInt(int64(power(2, w)))).Int64())
}

// stepByTheWords is one step as the document words it.
func stepByTheWords(key []byte, w, x int) int {
	left, right := x/power(2, w), x%power(2, w)
	for round := 0; round <= 3; round++ {
		wasLeft, wasRight := left, right
		left = wasRight
		right = wasLeft ^ mixByTheWords(key, w, round, wasRight)
	}
	return left*power(2, w) + right
}

// placeByTheWords is the place of a number as the document words it.
func placeByTheWords(key []byte, n, i int) int {
	for x := i; ; {
		x = stepByTheWords(key, bitsByTheWords(n), x)
		if x < n {
			return x
		}
	}
}

// placesByTheWords are the places of 0 to n - 1 as the document words them.
func placesByTheWords(key []byte, n int) []int {
	var list []int
	for i := range n {
		list = append(list, placeByTheWords(key, n, i))
	}
	return list
}

// message is so many bytes, others for each size and seed.
func message(size, seed int) []byte {
	state := uint32(size + 100000*seed)
	list := make([]byte, size)
	for i := range list {
		state = state*1664525 + 1013904223
		list[i] = byte(state >> 16)
	}
	return list
}

// keys are keys: of no bytes, of few, and of more than a mac has room for.
func keys() [][]byte {
	list := [][]byte{nil, {}, {0}, {255}, []byte("key"), bytes.Repeat([]byte{255}, 32), make([]byte, 32)}
	for _, size := range []int{1, 16, 31, 32, 33, 63, 64, 65, 200} {
		list = append(list, message(size, 1))
	}
	return list
}

// sizes are how many places an order may have: around each power of four, and others.
func sizes() []int {
	list := []int{7, 33, 40, 223, 255, 263, 512, 1000, 1023, 1025, 99999, 1000003}
	for w := range 10 {
		list = append(list, power(4, w), power(4, w)+1, max(power(4, w)-1, 1))
	}
	return append(list, mostPlaces-1, mostPlaces)
}

// some are numbers below n: the edges, each bit for itself, and others.
func some(n int) []int {
	all := []int{0, 1, 2, n / 3, n / 2, n/2 + 1, n - 2, n - 1}
	for bit := range 20 {
		all = append(all, 1<<bit, 1<<bit-1)
	}
	var list []int
	for _, x := range all {
		if x >= 0 && x < n {
			list = append(list, x)
		}
	}
	return list
}

// rising are the bytes 0 to 63.
func rising() []byte {
	list := make([]byte, 64)
	for i := range list {
		list[i] = byte(i)
	}
	return list
}

// knownStep is a step that was worked out elsewhere.
type knownStep struct {
	key        []byte
	w, x, want int
}

// knownSteps are steps that were worked out elsewhere.
func knownSteps() []knownStep {
	key, full, long := []byte("key"), bytes.Repeat([]byte{0xff}, 32), bytes.Repeat([]byte{0x0b}, 100)
	return []knownStep{
		{nil, 1, 0, 1}, {nil, 1, 3, 0}, {nil, 2, 5, 0}, {nil, 5, 700, 116}, {nil, 8, 65535, 3919}, {nil, 10, 0, 43865},
		{key, 1, 0, 2}, {key, 2, 5, 11}, {key, 5, 700, 987}, {key, 8, 65535, 47669}, {key, 10, 123456, 523686},
		{rising(), 1, 3, 0}, {rising(), 5, 700, 79}, {rising(), 10, 1048575, 491033},
		{full, 1, 3, 1}, {full, 2, 5, 13}, {full, 10, 0, 955170}, {full, 10, 1048575, 158765},
		{long, 2, 5, 1}, {long, 5, 700, 239}, {long, 10, 123456, 928368},
	}
}

// knownOrder is an order that was worked out elsewhere.
type knownOrder struct {
	key  []byte
	want []int
}

// knownOrders are orders that were worked out elsewhere.
func knownOrders() []knownOrder {
	return []knownOrder{
		{nil, []int{0}},
		{nil, []int{3, 4, 5, 2, 6, 0, 1}},
		{[]byte("key"), []int{2, 1, 0, 3}},
		{[]byte("key"), []int{0, 1, 2, 4, 3}},
		{[]byte("key"), []int{7, 9, 8, 2, 15, 16, 5, 10, 3, 12, 14, 6, 1, 13, 11, 4, 0}},
		{bytes.Repeat([]byte{0xff}, 32), []int{11, 7, 0, 6, 23, 31, 28, 14, 2, 29, 9, 12, 27, 3, 19, 16, 5, 1, 32, 21, 25, 17, 4, 8, 24, 26, 15, 30, 20, 18, 13, 22, 10}},
		{bytes.Repeat([]byte{0x0b}, 100), []int{2, 1, 0}},
		{rising(), []int{0, 1}},
	}
}

// knownPlace is the place of a number that was worked out elsewhere.
type knownPlace struct {
	key        []byte
	n, i, want int
}

// knownPlaces are places in great orders that were worked out elsewhere.
func knownPlaces() []knownPlace {
	key, full := []byte("key"), bytes.Repeat([]byte{0xff}, 32)
	return []knownPlace{
		{key, 1048576, 0, 280199}, {key, 1048576, 1048575, 805393}, {nil, 1048576, 77, 574758},
		{key, 262145, 5, 233184}, {key, 262145, 262144, 58186}, {key, 1025, 1024, 414},
		{full, 1048575, 1048574, 612418}, {full, 65537, 65536, 44892},
	}
}
