package mac

import (
	"bytes"
	"slices"
	"testing"
)

// roomy is a list with more behind it, all of it told.
func roomy(list []byte) []byte { return slices.Concat(list, plain(100, 123)) }

func TestNothingGivenIsChanged(t *testing.T) {
	for size := range 140 {
		whole, tag := roomy(message(size, 1)), roomy(message(8, 2))
		given := whole[:size]
		Of(given, given, given)
		k := Make(given)
		k.Of(given, given)
		k.Tag(given)
		k.Right(tag[:8], given)
		Same(given, given)
		Same(given, tag[:8])
		if !bytes.Equal(whole, roomy(message(size, 1))) || !bytes.Equal(tag, roomy(message(8, 2))) {
			t.Fatalf("%d bytes, or the room behind them, were changed", size)
		}
	}
	parts := [][]byte{[]byte("a"), nil, []byte("bc"), []byte("room")}
	k := Make(nil)
	Of(nil, parts[:3]...)
	k.Of(parts[:3]...)
	k.Right(k.Tag(parts[:3]...), parts[:3]...)
	if string(parts[0]) != "a" || parts[1] != nil || string(parts[2]) != "bc" || string(parts[3]) != "room" {
		t.Fatalf("parts became %v", parts)
	}
}

func TestTheKeyIsNotWhatWasGiven(t *testing.T) {
	// Writing over the key that was given, and over answers, changes no later answer.
	for size := range 140 {
		key, list := message(size, 1), message(30, 1)
		want := byTheWords(key, list)
		k := Make(key)
		for i := range key {
			key[i] ^= 255
		}
		for range 3 {
			d, tag := k.Of(list), k.Tag(list)
			if d != want || !bytes.Equal(tag, want[:8]) || !k.Right(tag, list) {
				t.Fatalf("by a key of %d bytes that was written over", size)
			}
			for i := range d {
				d[i] ^= 255
			}
			for i := range tag {
				tag[i] ^= 255
			}
		}
	}
}

func TestKeysAreApart(t *testing.T) {
	list := message(30, 1)
	one, other, again := Make(message(16, 1)), Make(message(16, 2)), Make(message(16, 1))
	for range 3 {
		if one.Of(list) != byTheWords(message(16, 1), list) || other.Of(list) != byTheWords(message(16, 2), list) || again.Of(list) != one.Of(list) {
			t.Fatal("each key has its own macs")
		}
	}
	if first, second := one.Tag(list), one.Tag(list); &first[0] == &second[0] {
		t.Fatal("each tag has memory of its own")
	}
}
