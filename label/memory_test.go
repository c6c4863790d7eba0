package label

import (
	"bytes"
	"slices"
	"strconv"
	"testing"
)

// roomy is a list with more behind it, all of it told.
func roomy(list []byte) []byte { return slices.Concat(list, bytes.Repeat([]byte{123}, 100)) }

func TestNothingGivenIsChanged(t *testing.T) {
	for size := range 80 {
		whole := roomy(message(size, 1))
		given := whole[:size]
		Master(given)
		Key(given, "mask", 1)
		Key(given, "Mask", 1)
		Key(given, "mask", -1)
		All(given, 1)
		All(given, -1)
		k := Keys{given, given, given, given, given}
		Same(k, k)
		Same(k, Keys{})
		if !bytes.Equal(whole, roomy(message(size, 1))) {
			t.Fatalf("%d bytes, or the room behind them, were changed", size)
		}
	}
}

func TestAnswersAreTheCallersAlone(t *testing.T) {
	// Writing over the master key that was given, and over answers, changes nothing else.
	for size := 16; size <= 64; size++ {
		master := message(size, 1)
		k := made(t, master, 9)
		one, err := Key(master, "mask", 9)
		if err != nil {
			t.Fatal(err)
		}
		number := Number(9)
		turn(master)
		for i, label := range objects() {
			if !bytes.Equal(*fields(&k)[i], byTheWords(message(size, 1), label, 9)) || !bytes.Equal(one, byTheWords(message(size, 1), "mask", 9)) || !bytes.Equal(number, eightBytes(9)) {
				t.Fatalf("%s, or another answer, became another one", label)
			}
			turn(*fields(&k)[i])
		}
		turn(one)
		turn(number)
		holdsKey(t, message(size, 1), "mask", 9)
		if got := Number(9); !bytes.Equal(got, eightBytes(9)) {
			t.Fatalf("Number(9) = %x", got)
		}
	}
}

// turn writes over a list and the room behind it.
func turn(list []byte) {
	list = list[:cap(list)]
	for i := range list {
		list[i] ^= 255
	}
}

func TestLabelsAndNumbersHaveTheirOwnBytes(t *testing.T) {
	// With other bytes ahead of the mac the keys are others, too (a clash of macs would be news).
	master, keys, bytesOf := message(20, 1), map[string]string{}, map[string]string{}
	for _, label := range labels() {
		for _, n := range numbers() {
			name := label + " " + strconv.Itoa(n)
			key, err := Key(master, label, n)
			if err != nil {
				t.Fatal(err)
			}
			for what, seen := range map[string]map[string]string{string(key): keys, label + "\x00" + string(Number(n)): bytesOf} {
				if other, ok := seen[what]; ok && other != name {
					t.Fatalf("%s and %s have the same bytes", name, other)
				}
				seen[what] = name
			}
		}
	}
	if len(keys) != len(bytesOf) || len(keys) < 40*40 {
		t.Fatalf("%d keys of %d labels with numbers", len(keys), len(bytesOf))
	}
}

func TestEachByteOfTheMasterKeyCounts(t *testing.T) {
	for _, size := range []int{16, 17, 32, 63, 64} {
		master, seen := message(size, 3), map[string]bool{}
		for i := range 8 * size {
			master[i/8] ^= 1 << (i % 8)
			key, err := Key(master, "tag", 4)
			if err != nil || seen[string(key)] {
				t.Fatalf("bit %d of %d bytes doesn't count: %v", i, size, err)
			}
			seen[string(key)] = true
			master[i/8] ^= 1 << (i % 8)
		}
	}
}
