package shuffle

import (
	"bytes"
	"slices"
	"testing"
)

// roomy is a list with more behind it, all of it told.
func roomy(list []byte) []byte { return slices.Concat(list, bytes.Repeat([]byte{123}, 100)) }

// spoil writes over a list, and the room behind it.
func spoil[T byte | int](list []T) {
	for i := range list[:cap(list)] {
		list[:cap(list)][i] += 101
	}
}

// callAll calls everything with a key.
func callAll(key []byte) {
	for _, n := range []int{-1, 0, 1, 9, 1025, mostPlaces, mostPlaces + 1} {
		Step(key, 2, n)
		Step(key, n, 1)
		o, err := New(key, n)
		if err != nil {
			continue
		}
		o.All()
		for _, x := range []int{-1, 0, n - 1, n} {
			o.To(x)
			o.From(x)
		}
	}
}

func TestNothingGivenIsChanged(t *testing.T) {
	for size := range 80 {
		key := roomy(message(size, 1))
		callAll(key[:size])
		if !bytes.Equal(key, roomy(message(size, 1))) {
			t.Fatalf("a key of %d bytes, or the room behind it, was changed", size)
		}
	}
}

func TestAnOrderKeepsNothingOfWhatIsGiven(t *testing.T) {
	// Writing over the key changes no order that was made with it, small or great.
	for size := range 80 {
		key := message(size, 1)
		small, great := order(t, key, 21), order(t, key, mostPlaces)
		spoil(key)
		key = message(size, 1)
		if got := small.All(); !slices.Equal(got, placesByTheWords(key, 21)) {
			t.Fatalf("by a key of %d bytes that was written over: %v", size, got)
		}
		for _, i := range []int{0, 20} {
			holdsPlace(t, small, i, placeByTheWords(key, 21, i))
			holdsPlace(t, great, i, placeByTheWords(key, mostPlaces, i))
		}
	}
}

func TestAnswersAreTheCallersAlone(t *testing.T) {
	for _, n := range []int{1, 4, 5, 40, 1024} {
		o := order(t, []byte("key"), n)
		first, second := o.All(), o.All()
		spoil(first)
		spoil(append(first, 1, 2))
		if want := placesByTheWords([]byte("key"), n); !slices.Equal(second, want) || !slices.Equal(o.All(), want) {
			t.Fatalf("of %d places, writing over an answer changed another one", n)
		}
	}
}

func TestOrdersDontTouchOneAnother(t *testing.T) {
	one, other := order(t, []byte("key"), 30), order(t, []byte("another key"), 31)
	for i := range 30 {
		holdsPlace(t, one, i, placeByTheWords([]byte("key"), 30, i))
		holdsPlace(t, other, i, placeByTheWords([]byte("another key"), 31, i))
	}
	refuses(t, one, []int{30})
	holdsPlace(t, other, 30, placeByTheWords([]byte("another key"), 31, 30))
}

func TestKeysHaveTheirOwnOrders(t *testing.T) {
	// Keys that aren't the same have other orders of many places (the same ones would be news).
	var seen [][]int
	for seed := range 40 {
		all := order(t, message(32, seed), 200).All()
		for _, other := range seen {
			if slices.Equal(all, other) {
				t.Fatalf("the order of key %d was there already", seed)
			}
		}
		seen = append(seen, all)
	}
}
