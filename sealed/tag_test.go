package sealed

import (
	"bytes"
	"slices"
	"testing"

	"bailee/api"
)

// someBlocks are blocks of many kinds.
func someBlocks() [][]byte {
	return [][]byte{make([]byte, 8), bytes.Repeat([]byte{255}, 8), []byte("8 bytes."), message(8, 1)}
}

func TestTagByTheDocumentsWords(t *testing.T) {
	for _, h := range few() {
		for place := range 512 {
			for _, block := range someBlocks() {
				got, err := Tag(h.master, h.number, place, block)
				want := slices.Concat(block, tagOf(h.master, h.number, place, block))
				if err != nil || !bytes.Equal(got, want) {
					t.Fatalf("Tag(%x, %d, %d, %x) = %x, %v", h.master, h.number, place, block, got, err)
				}
				if is, err := Tagged(h.master, h.number, place, got); err != nil || !is {
					t.Fatalf("Tagged(%x, %d, %d, %x) = %t, %v", h.master, h.number, place, got, is, err)
				}
			}
		}
	}
}

func TestTagAndTaggedAtNoPlace(t *testing.T) {
	master, block := message(16, 1), message(8, 1)
	for _, place := range append(far(), 512, 513, 1024) {
		if got, err := Tag(master, 3, place, block); err != api.ErrRange || got != nil {
			t.Fatalf("Tag at %d = %x, %v", place, got, err)
		}
		if place < 0 {
			continue
		}
		// Not even what has the tag of such a place.
		stored := slices.Concat(block, tagOf(master, 3, place, block))
		if is, err := Tagged(master, 3, place, stored); err != nil || is {
			t.Fatalf("Tagged at %d = %t, %v", place, is, err)
		}
	}
	for _, place := range far() {
		if is, err := Tagged(master, 3, place, message(16, 1)); err != nil || is {
			t.Fatalf("Tagged at %d = %t, %v", place, is, err)
		}
	}
}

// wrongLengths are lists that haven't so many bytes, some with more behind them.
func wrongLengths(size int) [][]byte {
	list := [][]byte{nil, message(1000, 1)}
	for many := range 40 {
		if many != size {
			list = append(list, message(many, 1), message(100, 1)[:many])
		}
	}
	return list
}

func TestTagOfNoBlock(t *testing.T) {
	for _, block := range wrongLengths(8) {
		for _, place := range []int{0, 4, 511} {
			if got, err := Tag(message(16, 1), 3, place, block); err != api.ErrSize || got != nil {
				t.Fatalf("Tag of %d bytes = %x, %v", len(block), got, err)
			}
		}
	}
}

func TestTaggedOfOtherBytes(t *testing.T) {
	master := message(40, 1)
	for _, place := range []int{0, 1, 255, 256, 511} {
		stored, err := Tag(master, 9, place, message(8, 2))
		if err != nil {
			t.Fatal(err)
		}
		for bit := range 128 {
			other := slices.Clone(stored)
			other[bit/8] ^= 1 << (bit % 8)
			if is, err := Tagged(master, 9, place, other); err != nil || is {
				t.Fatalf("at %d, with bit %d changed: %t, %v", place, bit, is, err)
			}
		}
		for _, other := range wrongLengths(16) {
			if is, err := Tagged(master, 9, place, other); err != nil || is {
				t.Fatalf("at %d, %x: %t, %v", place, other, is, err)
			}
		}
		room := slices.Concat(stored, stored)
		for many := range len(room) + 1 {
			if is, err := Tagged(master, 9, place, room[:many]); err != nil || is != (many == 16) {
				t.Fatalf("at %d, %d bytes of it: %t, %v", place, many, is, err)
			}
		}
	}
}

func TestParts(t *testing.T) {
	for seed := range 50 {
		stored := message(16, seed)
		block, tag, err := Parts(append(slices.Clone(stored), 1, 2, 3)[:16])
		if err != nil || !bytes.Equal(block, stored[:8]) || !bytes.Equal(tag, stored[8:]) {
			t.Fatalf("Parts(%x) = %x, %x, %v", stored, block, tag, err)
		}
	}
	for _, stored := range wrongLengths(16) {
		block, tag, err := Parts(stored)
		if err != api.ErrSize || block != nil || tag != nil {
			t.Fatalf("Parts of %d bytes = %x, %x, %v", len(stored), block, tag, err)
		}
	}
}

func TestPartsOfWhatIsSealed(t *testing.T) {
	for _, h := range few() {
		for place, stored := range seal(t, h).Stored {
			block, tag, err := Parts(stored)
			if err != nil || !bytes.Equal(tag, tagOf(h.master, h.number, place, block)) {
				t.Fatalf("of %v, at %d: %x, %x, %v", h.p, place, block, tag, err)
			}
			if again, err := Tag(h.master, h.number, place, block); err != nil || !bytes.Equal(again, stored) {
				t.Fatalf("of %v, at %d: tagged again it is %x, %v", h.p, place, again, err)
			}
		}
	}
}
