package opened

import (
	"bytes"
	"crypto/hmac"
	"crypto/sha256"
	"math/big"
	"slices"
	"testing"

	"bailee/params"
	"bailee/sealed"
	"bailee/stripe"
)

// maxNumber is the document's MaxNumber, 2^40.
const maxNumber = 1099511627776

// macOf is a mac of parts, one behind the other.
func macOf(key []byte, parts ...[]byte) []byte {
	h := hmac.New(sha256.New, key)
	for _, part := range parts {
		h.Write(part)
	}
	return h.Sum(nil)
}

// eight is a number as eight bytes, the high one first.
func eight(n int) []byte { return big.NewInt(int64(n)).FillBytes(make([]byte, 8)) }

// keyOf is the key of a label, as the document words it.
func keyOf(master []byte, label string, number int) []byte {
	return macOf(master, []byte(label), []byte{0}, eight(number))
}

// tagOf is the tag of a block at a place, as the document words it.
func tagOf(o object, place int, block []byte) []byte {
	return macOf(keyOf(o.master, "tag", o.number), eight(place), block)[:8]
}

// xored is a block xor another one.
func xored(a, b []byte) []byte {
	var list []byte
	for j := range a {
		list = append(list, a[j]^b[j])
	}
	return list
}

// object is a file, and how it is handed over.
type object struct {
	master []byte
	number int
	file   []byte
	p      params.Params
}

// laid is an object as it was sealed: what is stored, by place (once for a test to write over, once as it was);
// the file's blocks, by number; the place of each number.
type laid struct {
	object
	stored, was, blocks [][]byte
	places              []int
}

// lay seals an object.
func lay(t *testing.T, o object) laid {
	t.Helper()
	s, err := sealed.Seal(o.master, o.number, o.file, o.p)
	if err != nil {
		t.Fatal(err)
	}
	blocks, err := stripe.Blocks(o.file)
	if err != nil {
		t.Fatal(err)
	}
	l := laid{object: o, stored: s.Stored, was: copied(s.Stored), blocks: blocks}
	for i := range s.Stored {
		place, err := sealed.Place(o.master, o.number, o.p, i)
		if err != nil {
			t.Fatal(err)
		}
		l.places = append(l.places, place)
	}
	return l
}

// groups are the numbers of each group's blocks.
func (l laid) groups(t *testing.T) [][]int {
	t.Helper()
	shape, err := stripe.Shape(len(l.file))
	if err != nil {
		t.Fatal(err)
	}
	var all [][]int
	next := 0
	for _, data := range shape {
		var group []int
		for range data + 32 {
			group = append(group, next)
			next++
		}
		all = append(all, group)
	}
	return all
}

// sentinels are the sentinels' places.
func (l laid) sentinels() []int { return l.places[len(l.blocks):] }

// blocksOf are the file's blocks of what is stored, and how many are gone, as the document words them.
func (l laid) blocksOf(stored [][]byte) ([][]byte, int) {
	blocks, gone := make([][]byte, len(l.blocks)), 0
	for i, place := range l.places {
		b := stored[place]
		switch {
		case len(b) != 16 || !bytes.Equal(b[8:], tagOf(l.object, place, b[:8])):
			gone++
		case i < len(blocks):
			blocks[i] = xored(b[:8], macOf(keyOf(l.master, "mask", l.number), eight(i)))
		}
	}
	return blocks, gone
}

// message is so many bytes, others for each size and seed.
func message(size, seed int) []byte {
	next, list := numbers(uint32(size+100000*seed)), make([]byte, size)
	for i := range list {
		list[i] = byte(next())
	}
	return list
}

// numbers makes numbers that look like chance, the same ones each time.
func numbers(seed uint32) func() int {
	return func() int {
		seed = seed*1664525 + 1013904223
		return int(seed >> 8)
	}
}

// some are so many of a list, in an order that looks like chance.
func some(list []int, many int, next func() int) []int {
	all := slices.Clone(list)
	for i := range all {
		j := i + next()%(len(all)-i)
		all[i], all[j] = all[j], all[i]
	}
	return all[:many]
}

// upTo are the numbers 0 to n - 1.
func upTo(n int) []int {
	list := make([]int, n)
	for i := range list {
		list[i] = i
	}
	return list
}

// of are right parameters of so many bytes and sentinels.
func of(size, sentinels int) params.Params {
	return params.Params{Size: size, Sentinels: sentinels, Spots: 1, Period: 1, Patience: 1}
}

// rising are the bytes 0 to n - 1.
func rising(n int) []byte {
	list := make([]byte, n)
	for i := range list {
		list[i] = byte(i)
	}
	return list
}

// sample are files of many sizes, by many keys, for many numbers, with few and many sentinels.
func sample() []object {
	masters := [][]byte{make([]byte, 16), []byte("sixteen bytes .."), bytes.Repeat([]byte{255}, 32), rising(64), message(63, 1), message(17, 2)}
	ids := []int{0, 1, 7, 255, 256, 1 << 32, maxNumber - 1, maxNumber}
	var list []object
	for i, size := range []int{0, 1, 7, 8, 9, 15, 16, 17, 100, 257, 1000, 1776, 1783, 1784, 1785, 1792, 1793, 1999, 2000} {
		for _, sentinels := range []int{0, 1 + i%7, 8} {
			k := len(list)
			list = append(list, object{masters[k%len(masters)], ids[k%len(ids)], message(size, k), of(size, sentinels)})
		}
	}
	return append(list,
		object{masters[0], 0, make([]byte, 2000), of(2000, 8)},
		object{masters[1], 3, bytes.Repeat([]byte{255}, 1784), of(1784, 0)})
}

// few are fewer of those, for what takes long.
func few() []object {
	return []object{
		{make([]byte, 16), 0, nil, of(0, 0)},
		{[]byte("sixteen bytes .."), 7, []byte("hello, world"), of(12, 4)},
		{rising(64), maxNumber, message(100, 5), of(100, 8)},
		{message(33, 3), 258, message(1793, 6), of(1793, 3)},
	}
}
