package stream

import (
	"bytes"
	"slices"
	"testing"
)

// roomy is a list with more behind it, all of it told.
func roomy(list []byte) []byte { return slices.Concat(list, bytes.Repeat([]byte{123}, 100)) }

// spoil writes over a list, and the room behind it.
func spoil[T byte | int](list []T) {
	for i := range list[:cap(list)] {
		list[:cap(list)][i] += 101
	}
}

// callAll calls everything with a key and a list of blocks.
func callAll(key []byte, list [][]byte) {
	for _, i := range []int{-1, 0, 9, maxNumber, maxNumber + 1} {
		Block(key, i)
		Number(key, i)
		Below(key, i, 7)
		Below(key, i, 0)
		Choose(key, i, 9, 4)
		Choose(key, i, 9, 10)
		Masks(key, i, list)
		for _, b := range list {
			Mask(key, i, b)
		}
	}
}

func TestNothingGivenIsChanged(t *testing.T) {
	for size := range 80 {
		key := roomy(message(size, 1))
		var whole, given [][]byte
		for _, length := range []int{8, 8, 8, size} {
			whole = append(whole, roomy(message(length, 2)))
			given = append(given, whole[len(whole)-1][:length])
		}
		list := append(slices.Clone(given[:3]), given[3], []byte{1})
		callAll(key[:size], list[:3])
		callAll(key[:size], list[:4])
		if !bytes.Equal(key, roomy(message(size, 1))) {
			t.Fatalf("a key of %d bytes, or the room behind it, was changed", size)
		}
		for place, length := range []int{8, 8, 8, size} {
			if !bytes.Equal(whole[place], roomy(message(length, 2))) || len(list[place]) != length {
				t.Fatalf("a block of %d bytes, or the room behind it, was changed", length)
			}
		}
		if len(list) != 5 || !bytes.Equal(list[4], []byte{1}) {
			t.Fatal("the room behind a list was changed")
		}
	}
}

func TestAnswersAreTheCallersAlone(t *testing.T) {
	// Writing over what was given, and over answers, changes nothing else.
	for size := range 80 {
		key, b := message(size, 1), message(8, 2)
		block, _ := Block(key, 5)
		masked, _ := Mask(key, 5, b)
		list, _ := Choose(key, 5, 30, 9)
		spoil(key)
		spoil(b)
		key = message(size, 1)
		if !bytes.Equal(block, blockByTheWords(key, 5)) || !bytes.Equal(masked, maskedByTheWords(key, 5, message(8, 2))) || !slices.Equal(list, chosenByTheWords(key, 5, 30, 9)) {
			t.Fatalf("by a key of %d bytes, an answer became another one", size)
		}
		spoil(block)
		spoil(masked)
		spoil(list)
		holdsNumber(t, key, 5)
		holdsChoice(t, key, 5, 30, 9)
		holdsMasks(t, key, 5, [][]byte{message(8, 2)})
	}
}

func TestMasksShareNoMemory(t *testing.T) {
	for many := range 12 {
		list := blocks(many, 3)
		got, err := Masks([]byte("key"), 2, list)
		if err != nil {
			t.Fatal(err)
		}
		for place := range got {
			want := maskedByTheWords([]byte("key"), 2+place, blocks(many, 3)[place])
			if !bytes.Equal(got[place], want) {
				t.Fatalf("of %d blocks, writing over those ahead changed the one at %d", many, place)
			}
			// What is put behind a block goes elsewhere, too.
			spoil(append(got[place], 1, 2, 3))
			if !bytes.Equal(got[place], want) {
				t.Fatalf("of %d blocks, the one at %d has room behind it", many, place)
			}
			spoil(got[place])
		}
		for place := range got {
			spoil(list[place])
			got[place] = nil
		}
		holdsMasks(t, []byte("key"), 2, blocks(many, 3))
	}
}

func TestMaskedBlocksAreNotThoseGiven(t *testing.T) {
	for many := range 12 {
		list := blocks(many, 3)
		got, err := Masks([]byte("key"), 2, list)
		if err != nil {
			t.Fatal(err)
		}
		for place := range got {
			spoil(got[place])
			got[place] = nil
		}
		if !slices.EqualFunc(list, blocks(many, 3), bytes.Equal) {
			t.Fatalf("writing over what %d blocks were masked to changed them", many)
		}
	}
}

func TestKeysAndNumbersHaveTheirOwnBlocks(t *testing.T) {
	// Keys and numbers that aren't the same have other blocks (the same ones would be news).
	seen := map[string]bool{}
	for seed := range 20 {
		for _, i := range numbers() {
			b, err := Block(message(32, seed), i)
			if err != nil || seen[string(b)] {
				t.Fatalf("block %d by key %d was there already: %v", i, seed, err)
			}
			seen[string(b)] = true
		}
	}
}
