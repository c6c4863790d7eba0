package tree

import (
	"bytes"
	"slices"
	"testing"

	"bailee/sha"
)

// roomy is a list with more behind it, all of it told.
func roomy(list []byte) []byte { return slices.Concat(list, bytes.Repeat([]byte{123}, 100)) }

// behind are leaves that stand in the room behind those that are given.
func behind() [][]byte { return [][]byte{[]byte("room"), nil, []byte("more room")} }

func TestNoBytesGivenAreChanged(t *testing.T) {
	for size := range 140 {
		whole := roomy(message(size, 1))
		given := whole[:size]
		Leaf(given)
		Outer(given)
		leaves := [][]byte{given, given, given}
		Root(leaves)
		Leaves(leaves)
		if !bytes.Equal(whole, roomy(message(size, 1))) {
			t.Fatalf("%d bytes, or the room behind them, were changed", size)
		}
	}
}

func TestNoListGivenIsChanged(t *testing.T) {
	for n := range 70 {
		leaves, list := append(sample(n, 1), behind()...), Leaves(append(sample(n, 1), behind()...))
		Root(leaves[:n])
		Leaves(leaves[:n])
		Over(list[:n])
		if !slices.EqualFunc(leaves, append(sample(n, 1), behind()...), bytes.Equal) {
			t.Fatalf("%d leaves, or the room behind them, were changed", n)
		}
		if !slices.Equal(list, leavesByTheWords(append(sample(n, 1), behind()...))) {
			t.Fatalf("%d digests, or the room behind them, were changed", n)
		}
	}
}

// spoil writes over bytes, and the room behind them.
func spoil(list []byte) {
	for i := range list[:cap(list)] {
		list[:cap(list)][i] ^= 255
	}
}

func TestAnswersAreTheCallersAlone(t *testing.T) {
	for size := range 100 {
		whole := roomy(message(size, 1))
		given := whole[:size]
		first, second := Outer(given), Outer(given)
		spoil(first)
		if !bytes.Equal(second, slices.Concat([]byte{0}, message(size, 1))) || !bytes.Equal(whole, roomy(message(size, 1))) {
			t.Fatalf("writing over the bytes of a leaf of %d changed others", size)
		}
	}
	left, right := sha.Of([]byte("left")), sha.Of([]byte("right"))
	first, second := Inner(left, right), Inner(left, right)
	spoil(first)
	if sha.Of(second) != nodeByTheWords(left, right) || left != sha.Of([]byte("left")) || right != sha.Of([]byte("right")) {
		t.Fatal("writing over the bytes of a node changed others")
	}
	for n := range 70 {
		leaves := sample(n, 1)
		first, second := Leaves(leaves), Leaves(leaves)
		for i := range first[:cap(first)] {
			spoil(first[:cap(first)][i][:])
		}
		if !slices.Equal(second, leavesByTheWords(leaves)) || Root(leaves) != rootByTheWords(leaves) || Over(second) != rootByTheWords(leaves) {
			t.Fatalf("writing over the digests of %d leaves changed others", n)
		}
	}
}

func TestWhatIsGivenIsNotKept(t *testing.T) {
	for size := range 100 {
		b := message(size, 1)
		outer, list := Outer(b), Leaves([][]byte{b, b})
		spoil(b)
		if !bytes.Equal(outer, slices.Concat([]byte{0}, message(size, 1))) || !slices.Equal(list, leavesByTheWords([][]byte{message(size, 1), message(size, 1)})) {
			t.Fatalf("writing over %d bytes that were given changed an answer", size)
		}
		if b = message(size, 1); Leaf(b) != leafByTheWords(b) {
			t.Fatalf("writing over %d bytes that were given changed a later answer", size)
		}
	}
}
