package sha

import (
	"bytes"
	"crypto/sha256"
	"encoding/hex"
	"errors"
	"slices"
	"strings"
	"testing"

	"bailee/api"
)

// known are messages, and their digests' figures.
func known() map[string]string {
	return map[string]string{
		"":    "e3b0c44298fc1c149afbf4c8996fb92427ae41e4649b934ca495991b7852b855",
		"abc": "ba7816bf8f01cfea414140de5dae2223b00361a396177a9cb410ff61f20015ad",
		"abcdbcdecdefdefgefghfghighijhijkijkljklmklmnlmnomnopnopq":                                                         "248d6a61d20638b8e5c026930c3e6039a33ce45964ff2167f6ecedd419db06c1",
		"abcdefghbcdefghicdefghijdefghijkefghijklfghijklmghijklmnhijklmnoijklmnopjklmnopqklmnopqrlmnopqrsmnopqrstnopqrstu": "cf5b16a778af8380036ce59e7b0492370b249b11e8f07a51afac45037afee9d1",
		strings.Repeat("a", 1000000): "cdc76e5c9914fb9281a1c7e284d73e67f1809a48a497200e046d39ccc7112cd0",
	}
}

func TestKnownDigests(t *testing.T) {
	for text, want := range known() {
		if got := Hex(Of([]byte(text))); got != want {
			t.Fatalf("of %d bytes: %s, not %s", len(text), got, want)
		}
	}
}

func TestDigestsByTheDocumentsWords(t *testing.T) {
	for size := range 140 {
		if got, want := Of(message(size)), byTheWords(message(size)); got != want {
			t.Fatalf("of %d bytes: %s, not %s", size, Hex(got), Hex(want))
		}
	}
}

func TestDigestsOfAllSizes(t *testing.T) {
	for _, size := range sizes() {
		for _, list := range samples(size) {
			if got, want := Of(list), sha256.Sum256(list); got != want {
				t.Fatalf("of %d bytes: %s, not %x", size, Hex(got), want)
			}
		}
	}
}

func TestEachBitCounts(t *testing.T) {
	for _, size := range []int{1, 55, 56, 64, 120} {
		list := message(size)
		seen := map[Digest]bool{Of(list): true}
		for i := range 8 * size {
			list[i/8] ^= 1 << (i % 8)
			got := Of(list)
			if want := sha256.Sum256(list); got != want || seen[got] {
				t.Fatalf("of %d bytes with bit %d changed: %s, not %x", size, i, Hex(got), want)
			}
			seen[got] = true
			list[i/8] ^= 1 << (i % 8)
		}
	}
}

func TestPartsOneBehindTheOther(t *testing.T) {
	if Of() != Of(nil) || Of() != Of(nil, []byte{}, nil) || Of() != sha256.Sum256(nil) {
		t.Fatal("no parts, and parts without bytes, are no bytes")
	}
	for _, size := range []int{1, 2, 55, 56, 63, 64, 65, 128, 130} {
		list := message(size)
		want := Digest(sha256.Sum256(list))
		for i := range size + 1 {
			for j := i; j <= size; j++ {
				if got := Of(list[:i], list[i:j], nil, list[j:]); got != want {
					t.Fatalf("of %d bytes, parted at %d and %d: %s, not %s", size, i, j, Hex(got), Hex(want))
				}
			}
		}
		if Of(list, list) == want || Of(list, []byte{0}) == want {
			t.Fatalf("of %d bytes: more parts have the same digest", size)
		}
	}
	if a, b := []byte("a"), []byte("bc"); Of(a, b) == Of(b, a) {
		t.Fatal("the order of parts counts")
	}
}

func TestFigures(t *testing.T) {
	for b := range 256 {
		d := Digest(bytes.Repeat([]byte{byte(b)}, 32))
		if got, want := Hex(d), hex.EncodeToString(d[:]); got != want {
			t.Fatalf("Hex(%v) = %s, not %s", d, got, want)
		}
		d = Of([]byte{byte(b)})
		text := Hex(d)
		if text != hex.EncodeToString(d[:]) {
			t.Fatalf("Hex(%v) = %s", d, text)
		}
		if got, err := Unhex(text); err != nil || got != d {
			t.Fatalf("Unhex(%s) = %v, %v", text, got, err)
		}
	}
	if Hex(Digest{}) != strings.Repeat("0", 64) {
		t.Fatal("noughts are figures, too")
	}
	if got, err := Unhex(strings.Repeat("0", 64)); err != nil || got != (Digest{}) {
		t.Fatalf("noughts: %v, %v", got, err)
	}
}

func TestTextsThatAreNoDigests(t *testing.T) {
	var wrong []string
	for size := range 140 {
		if size != 64 {
			wrong = append(wrong, strings.Repeat("a", size))
		}
	}
	right := Hex(Of([]byte("abc")))
	for place := range 64 {
		for b := range 256 {
			if !strings.Contains("0123456789abcdef", string(rune(b))) {
				wrong = append(wrong, right[:place]+string([]byte{byte(b)})+right[place+1:])
			}
		}
	}
	wrong = append(wrong, " "+right, right+" ", right+"\n", "0x"+right[2:], "0x"+right, right+right)
	wrong = append(wrong, strings.ToUpper(right), strings.Repeat("\u00e4", 32), strings.Repeat("\uff11", 64), strings.Repeat("1", 61)+"\uff11")
	for _, text := range wrong {
		if got, err := Unhex(text); !errors.Is(err, api.ErrForm) || got != (Digest{}) {
			t.Fatalf("Unhex(%q) = %v, %v", text, got, err)
		}
	}
}

func TestWhichIsAhead(t *testing.T) {
	list := []Digest{{}, Digest(bytes.Repeat([]byte{0xff}, 32)), Digest(bytes.Repeat([]byte{0x80}, 32))}
	for i := range 32 {
		for _, b := range []byte{1, 0x7f, 0x80, 0xff} {
			var d Digest
			d[i] = b
			list = append(list, d, Of(d[:]))
		}
	}
	for _, a := range list {
		for _, b := range list {
			if got, want := Less(a, b), slices.Compare(a[:], b[:]) < 0; got != want {
				t.Fatalf("Less(%s, %s) = %v", Hex(a), Hex(b), got)
			}
		}
	}
}

func TestNoughts(t *testing.T) {
	if !Zero(Digest{}) {
		t.Fatal("all bytes are noughts")
	}
	for i := range 256 {
		var d Digest
		d[i/8] = 1 << (i % 8)
		if Zero(d) {
			t.Fatalf("bit %d is none", i)
		}
	}
	if Zero(Of()) {
		t.Fatal("the digest of no bytes isn't noughts")
	}
}
