package label

import (
	"bytes"
	"encoding/hex"
	"errors"
	"testing"

	"bailee/api"
)

func TestMaster(t *testing.T) {
	for size := range 200 {
		want := size >= 16 && size <= 64
		for _, key := range [][]byte{make([]byte, size), message(size, 1), bytes.Repeat([]byte{0xff}, size)} {
			if got := Master(key); got != want {
				t.Fatalf("Master of %d bytes = %v", size, got)
			}
		}
		// What is behind the key isn't the key's.
		if got := Master(message(500, 1)[:size]); got != want {
			t.Fatalf("Master of %d bytes with more room = %v", size, got)
		}
	}
	if Master(nil) || Master(make([]byte, 1<<20)) {
		t.Fatal("none, and very many, are no master key")
	}
}

func TestLabels(t *testing.T) {
	for _, s := range labels() {
		if !Label(s) {
			t.Fatalf("%q is a label", s)
		}
	}
	for _, s := range noLabels() {
		if Label(s) {
			t.Fatalf("%q is no label", s)
		}
	}
	for place := range 12 {
		for b := range 256 {
			s := []byte("abcdefghijkl")
			s[place] = byte(b)
			if got, want := Label(string(s)), b >= 'a' && b <= 'z'; got != want {
				t.Fatalf("Label(%q) = %v", s, got)
			}
		}
	}
}

func TestKnownKeys(t *testing.T) {
	for _, row := range knownKeys() {
		got, err := Key(row.master, row.label, row.n)
		if err != nil || hex.EncodeToString(got) != row.want {
			t.Fatalf("Key(%x, %s, %d) = %x, %v", row.master, row.label, row.n, got, err)
		}
	}
}

func TestKeysByTheDocumentsWords(t *testing.T) {
	for size := 16; size <= 64; size++ {
		for _, master := range [][]byte{make([]byte, size), message(size, 1), bytes.Repeat([]byte{0x5c}, size)} {
			for _, label := range labels() {
				holdsKey(t, master, label, size)
			}
			for _, n := range numbers() {
				holdsKey(t, master, "mask", n)
				holdsKey(t, master, "abcdefghijkl", n)
			}
		}
	}
}

// holdsKey holds the key of a label against the document's words, twice.
func holdsKey(t *testing.T, master []byte, label string, n int) {
	t.Helper()
	want := byTheWords(master, label, n)
	for range 2 {
		if got, err := Key(master, label, n); err != nil || !bytes.Equal(got, want) || cap(got) != 32 {
			t.Fatalf("Key(%x, %s, %d) = %x, %v, not %x", master, label, n, got, err, want)
		}
	}
}

func TestAllByTheDocumentsWords(t *testing.T) {
	for size := 16; size <= 64; size++ {
		for _, master := range [][]byte{make([]byte, size), message(size, 2)} {
			for _, n := range numbers() {
				got, err := All(master, n)
				if err != nil {
					t.Fatalf("All(%x, %d): %v", master, n, err)
				}
				for i, label := range objects() {
					if key := *fields(&got)[i]; !bytes.Equal(key, byTheWords(master, label, n)) || cap(key) != 32 {
						t.Fatalf("All(%x, %d): %s = %x", master, n, label, key)
					}
				}
			}
		}
	}
}

// wanted is the first error that is true: none of a master key, of a label, of a number.
func wanted(master, label, number bool) error {
	switch {
	case !master:
		return api.ErrKey
	case !label:
		return api.ErrName
	case !number:
		return api.ErrRange
	}
	return nil
}

func TestErrorsInTheirOrder(t *testing.T) {
	right, wrong := [][]byte{message(16, 1), message(64, 1)}, [][]byte{nil, {}, message(1, 1), message(15, 1), message(65, 1), message(4000, 1)}
	for i, master := range append(right, wrong...) {
		for j, label := range append([]string{"a", "abcdefghijkl"}, noLabels()...) {
			for k, n := range append([]int{0, 7, maxNumber}, beyond()...) {
				want := wanted(i < 2, j < 2, k < 3)
				got, err := Key(master, label, n)
				if !errors.Is(err, want) || (err == nil) != (want == nil) || (err != nil && got != nil) {
					t.Fatalf("Key of %d bytes, %q, %d = %x, %v, not %v", len(master), label, n, got, err, want)
				}
			}
		}
	}
}

func TestErrorsOfAllInTheirOrder(t *testing.T) {
	right, wrong := [][]byte{message(16, 1), message(64, 1)}, [][]byte{nil, {}, message(1, 1), message(15, 1), message(65, 1), message(4000, 1)}
	for i, master := range append(right, wrong...) {
		for k, n := range append([]int{0, 7, maxNumber}, beyond()...) {
			want := wanted(i < 2, true, k < 3)
			got, err := All(master, n)
			if !errors.Is(err, want) || (err == nil) != (want == nil) {
				t.Fatalf("All of %d bytes, %d: %v, not %v", len(master), n, err, want)
			}
			for _, key := range fields(&got) {
				if (*key == nil) != (err != nil) {
					t.Fatalf("All of %d bytes, %d = %v, %v", len(master), n, got, err)
				}
			}
		}
	}
}

func TestNumber(t *testing.T) {
	for _, n := range append(numbers(), beyond()...) {
		for _, near := range []int{n - 1, n, n + 1} {
			if got := Number(near); !bytes.Equal(got, eightBytes(near)) || cap(got) != 8 {
				t.Fatalf("Number(%d) = %x", near, got)
			}
		}
	}
	known := map[int]string{
		0: "0000000000000000", 1: "0000000000000001", 258: "0000000000000102", maxNumber: "0000010000000000",
		-1: "ffffffffffffffff", -256: "ffffffffffffff00", -1 << 63: "8000000000000000", 1<<63 - 1: "7fffffffffffffff", 0x0102030405060708: "0102030405060708",
	}
	for n, want := range known {
		if got := hex.EncodeToString(Number(n)); got != want {
			t.Fatalf("Number(%d) = %s, not %s", n, got, want)
		}
	}
}
