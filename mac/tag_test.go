package mac

import (
	"bytes"
	"slices"
	"testing"
)

func TestTagsThatAreWrong(t *testing.T) {
	k, list := Make(message(32, 1)), message(20, 1)
	d := k.Of(list)
	for size := range 33 {
		if got := k.Right(d[:size], list); got != (size == 8) {
			t.Fatalf("the first %d bytes of a mac as a tag: %v", size, got)
		}
	}
	if k.Right(nil, list) || k.Right(nil) || k.Right([]byte{}) || k.Right(make([]byte, 8), list) {
		t.Fatal("none, and noughts, are no tag")
	}
	for i := range 64 {
		tag := k.Tag(list)
		tag[i/8] ^= 1 << (i % 8)
		if k.Right(tag, list) {
			t.Fatalf("a tag with bit %d changed is wrong", i)
		}
	}
	tag := k.Tag(list)
	for i := range tag {
		// A shorter tag, and one with a byte too many, anywhere.
		if k.Right(slices.Delete(slices.Clone(tag), i, i+1), list) || k.Right(slices.Insert(slices.Clone(tag), i, 0), list) {
			t.Fatalf("a tag of another length, at %d", i)
		}
	}
	if k.Right(append(slices.Clone(tag), 0), list) || k.Right(append(slices.Clone(tag), tag...), list) {
		t.Fatal("a tag with more behind it is wrong")
	}
}

func TestTagsOfOtherBytesAndKeys(t *testing.T) {
	key, list := message(32, 1), message(20, 1)
	k := Make(key)
	tag := k.Tag(list)
	for i := range 8 * len(list) {
		list[i/8] ^= 1 << (i % 8)
		if k.Right(tag, list) {
			t.Fatalf("the tag of bytes with bit %d changed is another one", i)
		}
		list[i/8] ^= 1 << (i % 8)
	}
	if k.Right(tag, list[1:]) || k.Right(tag, list, []byte{0}) || k.Right(tag) || k.Right(tag, list, list) {
		t.Fatal("the tag of fewer or of more bytes is another one")
	}
	for i := range 8 * len(key) {
		key[i/8] ^= 1 << (i % 8)
		if Make(key).Right(tag, list) {
			t.Fatalf("the tag by a key with bit %d changed is another one", i)
		}
		key[i/8] ^= 1 << (i % 8)
	}
}

func TestSame(t *testing.T) {
	lists := [][]byte{nil, {}, {0}, {1}, {0, 0}, {0, 1}, {1, 0}, {0x80}, {0xff}, {0xff, 0}, make([]byte, 8), make([]byte, 256), make([]byte, 257), make([]byte, 512)}
	for size := range 70 {
		lists = append(lists, message(size, 1), message(size, 2), plain(size, 0xff))
	}
	for _, a := range lists {
		for _, b := range lists {
			if got, want := Same(a, b), bytes.Equal(a, b); got != want {
				t.Fatalf("Same(%v, %v) = %v", a, b, got)
			}
		}
	}
	for _, size := range []int{1, 2, 8, 32, 100} {
		a := message(size, 3)
		for i := range 8 * size {
			b := slices.Clone(a)
			b[i/8] ^= 1 << (i % 8)
			if Same(a, b) || Same(b, a) {
				t.Fatalf("%d bytes with bit %d changed are others", size, i)
			}
		}
	}
	// Two differences don't take one another away.
	if Same([]byte{1, 2, 3, 4}, []byte{0, 3, 3, 4}) || Same([]byte{0xff, 0xff}, []byte{0, 0}) || Same([]byte{1, 1}, []byte{0, 0}) {
		t.Fatal("two bytes that differ by the same are others")
	}
}
