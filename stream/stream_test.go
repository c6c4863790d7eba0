package stream

import (
	"bytes"
	"encoding/hex"
	"errors"
	"testing"

	"bailee/api"
)

func TestKnownBlocksAndNumbers(t *testing.T) {
	for _, row := range knownBlocks() {
		if got, err := Block(row.key, row.i); err != nil || hex.EncodeToString(got) != row.block {
			t.Fatalf("Block(%x, %d) = %x, %v, not %s", row.key, row.i, got, err, row.block)
		}
		if got, err := Number(row.key, row.i); err != nil || got != row.number {
			t.Fatalf("Number(%x, %d) = %d, %v, not %d", row.key, row.i, got, err, row.number)
		}
		for _, n := range []int{1, 2, 7, 1000, 1 << 62, 1<<63 - 1} {
			if got, err := Below(row.key, row.i, n); err != nil || got != int(row.number%uint64(n)) {
				t.Fatalf("Below(%x, %d, %d) = %d, %v", row.key, row.i, n, got, err)
			}
		}
	}
}

// holdsNumber holds what is told of a number of a key's stream against the document's words, twice.
func holdsNumber(t *testing.T, key []byte, i int) {
	t.Helper()
	want, number := blockByTheWords(key, i), numberByTheWords(key, i).Uint64()
	for range 2 {
		if got, err := Block(key, i); err != nil || !bytes.Equal(got, want) || cap(got) != 8 {
			t.Fatalf("Block(%x, %d) = %x, %v, not %x", key, i, got, err, want)
		}
		if got, err := Number(key, i); err != nil || got != number {
			t.Fatalf("Number(%x, %d) = %d, %v, not %d", key, i, got, err, number)
		}
	}
}

func TestBlocksAndNumbersByTheDocumentsWords(t *testing.T) {
	for _, key := range keys() {
		for _, i := range numbers() {
			holdsNumber(t, key, i)
		}
		for i := range 300 {
			holdsNumber(t, key, i)
		}
	}
	for size := range 140 {
		holdsNumber(t, message(size, 2), size)
	}
}

func TestBlocksAndNumbersBeyondTheirRange(t *testing.T) {
	for _, key := range keys() {
		for _, i := range beyond() {
			if got, err := Block(key, i); got != nil || !errors.Is(err, api.ErrRange) {
				t.Fatalf("Block(%x, %d) = %x, %v", key, i, got, err)
			}
			if got, err := Number(key, i); got != 0 || !errors.Is(err, api.ErrRange) {
				t.Fatalf("Number(%x, %d) = %d, %v", key, i, got, err)
			}
		}
	}
}

// divisors are numbers below which one may be asked for.
func divisors() []int {
	list := []int{1<<63 - 1, 1<<63 - 2, 1<<62 + 1, maxNumber + 1, maxNumber - 1, 1000003}
	for n := 1; n <= 70; n++ {
		list = append(list, n)
	}
	for bit := range 63 {
		list = append(list, 1<<bit)
	}
	return list
}

func TestBelowByTheDocumentsWords(t *testing.T) {
	for _, key := range keys()[:9] {
		for _, i := range numbers() {
			for _, n := range divisors() {
				if got, err := Below(key, i, n); err != nil || got != belowByTheWords(key, i, n) || got < 0 || got >= n {
					t.Fatalf("Below(%x, %d, %d) = %d, %v, not %d", key, i, n, got, err, belowByTheWords(key, i, n))
				}
			}
		}
	}
}

func TestBelowBeyondItsRange(t *testing.T) {
	right := []int{1, 2, 1 << 20, 1<<63 - 1}
	wrong := []int{0, -1, -2, -maxNumber, -1 << 63}
	for _, key := range keys() {
		for j, i := range append([]int{0, 5, maxNumber}, beyond()...) {
			for k, n := range append(right, wrong...) {
				got, err := Below(key, i, n)
				if ok := j < 3 && k < len(right); ok != (err == nil) || !ok && (got != 0 || !errors.Is(err, api.ErrRange)) {
					t.Fatalf("Below(%x, %d, %d) = %d, %v", key, i, n, got, err)
				}
			}
		}
	}
}
