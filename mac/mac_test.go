package mac

import (
	"bytes"
	"crypto/hmac"
	"crypto/sha256"
	"slices"
	"strings"
	"testing"

	"bailee/sha"
)

// known are keys, texts, and the figures of their macs (RFC 4231, and the document's example).
func known() [][3]string {
	all := make([]byte, 25)
	for i := range all {
		all[i] = byte(i + 1)
	}
	aa := strings.Repeat("\xaa", 131)
	return [][3]string{
		{"", "", "b613679a0814d9ec772f95d778c35fc5ff1697c493715653c6c712144292c5ad"},
		{strings.Repeat("\x0b", 20), "Hi There", "b0344c61d8db38535ca8afceaf0bf12b881dc200c9833da726e9376c2e32cff7"},
		{"Jefe", "what do ya want for nothing?", "5bdcc146bf60754e6a042426089575c75a003f089d2739839dec58b964ec3843"},
		{strings.Repeat("\xaa", 20), strings.Repeat("\xdd", 50), "773ea91e36800e46854db8ebd09181a72959098b3ef8c122d9635514ced565fe"},
		{string(all), strings.Repeat("\xcd", 50), "82558a389a443c0ea4cc819899f2083a85f0faa3e578f8077a2e3ff46729665b"},
		{aa, "Test Using Larger Than Block-Size Key - Hash Key First", "60e431591ee0b67f0d8a26aacbf5b77f8e0bc6213728c5140546040f0ee37f54"},
		{aa, "This is a test using a larger than block-size key and a larger than block-size data. The key needs to be hashed before being used by the HMAC algorithm.", "9b09ffa71b942fcb27635fbcd5b0e944bfdc63644f0713938a7f51535c3a35e2"},
	}
}

// holds holds the mac of a list, by every call that tells it.
func holds(t *testing.T, key, list []byte, want sha.Digest) {
	t.Helper()
	if got := Of(key, list); got != want {
		t.Fatalf("of %d bytes by a key of %d: %s, not %s", len(list), len(key), sha.Hex(got), sha.Hex(want))
	}
	k := Make(key)
	for range 2 {
		if got := k.Of(list); got != want {
			t.Fatalf("of %d bytes by a made key of %d: %s, not %s", len(list), len(key), sha.Hex(got), sha.Hex(want))
		}
		if got := k.Tag(list); !bytes.Equal(got, want[:8]) || cap(got) != 8 {
			t.Fatalf("the tag of %d bytes by a key of %d: %x, not %x", len(list), len(key), got, want[:8])
		}
		if !k.Right(want[:8], list) {
			t.Fatalf("the tag of %d bytes by a key of %d is right", len(list), len(key))
		}
	}
}

func TestKnownMacs(t *testing.T) {
	for _, row := range known() {
		want, err := sha.Unhex(row[2])
		if err != nil {
			t.Fatal(err)
		}
		holds(t, []byte(row[0]), []byte(row[1]), want)
	}
}

func TestMacsByTheDocumentsWords(t *testing.T) {
	for keySize := range 140 {
		for _, size := range []int{0, 1, 31, 32, 55, 56, 64, 65, 119, 130} {
			key, list := message(keySize, 1), message(size, 2)
			holds(t, key, list, byTheWords(key, list))
		}
	}
	for _, b := range []byte{0, 0x36, 0x5c, 0x6a, 0xff} {
		for _, keySize := range []int{0, 1, 31, 32, 33, 63, 64, 65, 66, 1000, 5000} {
			key := plain(keySize, b)
			holds(t, key, nil, byTheWords(key, nil))
			holds(t, key, key, byTheWords(key, key))
		}
	}
}

func TestMacsOfAllSizes(t *testing.T) {
	for _, keySize := range []int{0, 32, 64, 65} {
		key := message(keySize, 1)
		for size := range 300 {
			list := message(size, 3)
			h := hmac.New(sha256.New, key)
			h.Write(list)
			holds(t, key, list, sha.Digest(h.Sum(nil)))
		}
	}
	key, list := message(32, 1), message(1<<20, 1)
	holds(t, key, list, byTheWords(key, list))
}

func TestTheKeyIsFilledWithNoughts(t *testing.T) {
	// What is filled up with noughts is the same key as with noughts of its own; beyond 64 bytes it is another one.
	for size := range 65 {
		key, list := message(size, 4), message(size, 5)
		want := Of(key, list)
		for more := size; more <= 70; more++ {
			got := Of(append(slices.Clone(key), make([]byte, more-size)...), list)
			if (got == want) != (more <= 64) {
				t.Fatalf("a key of %d bytes, and of %d: %v", size, more, got == want)
			}
		}
	}
	for _, size := range []int{65, 66, 100, 4000} {
		key := message(size, 6)
		d := sha.Of(key)
		if Of(key, key) != Of(d[:], key) {
			t.Fatalf("a key of %d bytes is its digest", size)
		}
	}
}

func TestEachBitOfTheKeyCounts(t *testing.T) {
	for _, size := range []int{1, 32, 64, 65, 100} {
		key, seen := message(size, 7), map[sha.Digest]bool{}
		seen[Of(key)] = true
		for i := range 8 * size {
			key[i/8] ^= 1 << (i % 8)
			got := Of(key)
			if seen[got] {
				t.Fatalf("bit %d of %d bytes doesn't count", i, size)
			}
			seen[got] = true
			key[i/8] ^= 1 << (i % 8)
		}
	}
}

func TestPartsOneBehindTheOther(t *testing.T) {
	key := message(40, 8)
	k := Make(key)
	none := byTheWords(key, nil)
	for _, parts := range [][][]byte{nil, {}, {nil}, {{}, nil, {}}} {
		if Of(key, parts...) != none || k.Of(parts...) != none || !k.Right(none[:8], parts...) || !bytes.Equal(k.Tag(parts...), none[:8]) {
			t.Fatal("no parts, and parts without bytes, are no bytes")
		}
	}
	for _, size := range []int{1, 2, 55, 56, 63, 64, 65, 100} {
		list := message(size, 9)
		want := byTheWords(key, list)
		for i := range size + 1 {
			for j := i; j <= size; j++ {
				parts := [][]byte{list[:i], nil, list[i:j], list[j:], {}}
				if Of(key, parts...) != want || k.Of(parts...) != want {
					t.Fatalf("%d bytes, parted at %d and %d, are the same bytes", size, i, j)
				}
				if !bytes.Equal(k.Tag(parts...), want[:8]) || !k.Right(want[:8], parts...) {
					t.Fatalf("the tag of %d bytes, parted at %d and %d", size, i, j)
				}
			}
		}
	}
	if a, b := []byte("a"), []byte("bc"); k.Of(a, b) == k.Of(b, a) || k.Of(a) == k.Of(a, b) {
		t.Fatal("the order of parts, and each of them, counts")
	}
}

func TestTheKeyWithoutBytes(t *testing.T) {
	list := message(77, 1)
	want := byTheWords(nil, list)
	holds(t, nil, list, want)
	holds(t, []byte{}, list, want)
	if k := new(Key); k.Of(list) != want || !k.Right(want[:8], list) {
		t.Fatal("a key of no bytes is all noughts")
	}
}
