package stream

import (
	"bytes"
	"encoding/hex"
	"errors"
	"slices"
	"testing"

	"bailee/api"
)

func TestKnownMask(t *testing.T) {
	got, err := Mask([]byte("key"), 3, []byte("8 bytes."))
	if err != nil || hex.EncodeToString(got) != "a0fcaad298d4b435" {
		t.Fatalf("Mask = %x, %v", got, err)
	}
}

func TestMaskByTheDocumentsWords(t *testing.T) {
	plain := [][]byte{make([]byte, 8), bytes.Repeat([]byte{255}, 8), []byte("8 bytes."), message(8, 3)}
	for bit := range 64 {
		one := make([]byte, 8)
		one[bit/8] = 1 << (bit % 8)
		plain = append(plain, one)
	}
	for _, key := range keys() {
		for _, i := range numbers() {
			for _, b := range plain {
				got, err := Mask(key, i, b)
				if err != nil || !bytes.Equal(got, maskedByTheWords(key, i, b)) || cap(got) != 8 {
					t.Fatalf("Mask(%x, %d, %x) = %x, %v", key, i, b, got, err)
				}
				if back, err := Mask(key, i, got); err != nil || !bytes.Equal(back, b) {
					t.Fatalf("Mask(%x, %d, %x) = %x, %v: masked twice it is %x", key, i, got, back, err, b)
				}
			}
		}
	}
}

// wanted is the first error of a block that is masked: of its size, of its number.
func wanted(i int, b []byte) error {
	switch {
	case len(b) != 8:
		return api.ErrSize
	case i < 0 || i > maxNumber:
		return api.ErrRange
	}
	return nil
}

// told tells whether an error is the one that is wanted.
func told(err, want error) bool {
	if want == nil {
		return err == nil
	}
	return errors.Is(err, want)
}

// wrongBlocks are lists that are no blocks.
func wrongBlocks() [][]byte {
	list := [][]byte{nil, message(1000, 1)}
	for size := range 40 {
		if size != 8 {
			list = append(list, message(size, 1), message(100, 1)[:size])
		}
	}
	return list
}

func TestMaskErrorsInTheirOrder(t *testing.T) {
	list := append(wrongBlocks(), message(8, 1), make([]byte, 8), message(100, 1)[:8])
	for _, key := range keys() {
		for _, i := range append([]int{0, 1, maxNumber - 1, maxNumber}, beyond()...) {
			for _, b := range list {
				want := wanted(i, b)
				got, err := Mask(key, i, b)
				if !told(err, want) || (got == nil) != (want != nil) {
					t.Fatalf("Mask(%x, %d, %x) = %x, %v, not %v", key, i, b, got, err, want)
				}
			}
		}
	}
}

// holdsMasks holds the masks of a list against the document's words, and masks them back.
func holdsMasks(t *testing.T, key []byte, from int, list [][]byte) {
	t.Helper()
	got, err := Masks(key, from, list)
	if err != nil || len(got) != len(list) {
		t.Fatalf("Masks(%x, %d) of %d blocks: %d, %v", key, from, len(list), len(got), err)
	}
	for place, b := range list {
		if !bytes.Equal(got[place], maskedByTheWords(key, from+place, b)) || cap(got[place]) != 8 {
			t.Fatalf("Masks(%x, %d) of %d blocks: at %d %x", key, from, len(list), place, got[place])
		}
	}
	if back, err := Masks(key, from, got); err != nil || !slices.EqualFunc(back, list, bytes.Equal) {
		t.Fatalf("Masks(%x, %d) of %d blocks: masked twice they are as they were", key, from, len(list))
	}
}

func TestMasksByTheDocumentsWords(t *testing.T) {
	for _, key := range keys() {
		for many := range 20 {
			for _, from := range []int{0, 1, 255, 256, 1 << 20, maxNumber - many, maxNumber + 1 - max(many, 1)} {
				holdsMasks(t, key, from, blocks(many, 4))
			}
		}
		same := message(8, 5)
		holdsMasks(t, key, 9, [][]byte{same, same, same})
	}
	holdsMasks(t, []byte("key"), 7, blocks(5000, 6))
}

func TestMasksFirstError(t *testing.T) {
	kinds := [][]byte{message(8, 1), nil, message(7, 1), message(9, 1)}
	for first, a := range kinds {
		for second, b := range kinds {
			for third, c := range kinds {
				for _, from := range append([]int{0, maxNumber - 3, maxNumber - 2, maxNumber - 1, maxNumber, -3}, beyond()...) {
					list := [][]byte{a, b, c}
					var want error
					for place := len(list) - 1; place >= 0; place-- {
						if fault := wanted(from+place, list[place]); fault != nil {
							want = fault
						}
					}
					got, err := Masks([]byte("key"), from, list)
					if !told(err, want) || (got == nil) != (want != nil) {
						t.Fatalf("Masks from %d of kinds %d, %d, %d = %x, %v, not %v", from, first, second, third, got, err, want)
					}
				}
			}
		}
	}
}

func TestMasksOfNone(t *testing.T) {
	// No block is asked for, whatever its number would be.
	for _, key := range keys() {
		for _, from := range append(numbers(), beyond()...) {
			for _, list := range [][][]byte{nil, {}, blocks(3, 1)[:0]} {
				if got, err := Masks(key, from, list); err != nil || len(got) != 0 {
					t.Fatalf("Masks(%x, %d) of none = %x, %v", key, from, got, err)
				}
			}
		}
	}
}
