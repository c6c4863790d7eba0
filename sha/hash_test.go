package sha

import (
	"bytes"
	"crypto/sha256"
	"slices"
	"testing"
)

// holds holds what a hash says of what was put.
func holds(t *testing.T, h *Hash, list []byte) {
	t.Helper()
	if got, want := h.Sum(), sha256.Sum256(list); got != want || h.Count() != len(list) {
		t.Fatalf("of %d bytes: %s, not %x, and %d bytes were put", len(list), Hex(got), want, h.Count())
	}
}

func TestNothingPut(t *testing.T) {
	holds(t, New(), nil)
	holds(t, New().Put(nil).Put([]byte{}), nil)
	holds(t, &Hash{}, nil)
	holds(t, (&Hash{}).Put(message(99)), message(99))
}

func TestBytesGoOnByteByByte(t *testing.T) {
	// It is asked behind each byte, and more is put then.
	list, h := message(400), New()
	for i := range list {
		if h.Put(list[i:i+1]) != h {
			t.Fatal("Put answers itself")
		}
		holds(t, h, list[:i+1])
		holds(t, h, list[:i+1])
		if h.Put(nil) != h {
			t.Fatal("Put answers itself")
		}
		holds(t, h, list[:i+1])
	}
}

func TestBytesPartedAnyHow(t *testing.T) {
	for _, size := range []int{3, 60, 64, 128, 200} {
		list := message(size)
		for i := range size + 1 {
			h := New().Put(list[:i])
			holds(t, h, list[:i])
			holds(t, h.Put(list[i:]), list)
		}
	}
	for seed := range 300 {
		next := numbers(uint32(seed))
		list := message(next() % 3000)
		asked, quiet := New(), New()
		for left := list; len(left) > 0; {
			n := min(next()%(1+next()%300), len(left))
			asked.Put(left[:n])
			quiet.Put(left[:n])
			left = left[n:]
			holds(t, asked, list[:len(list)-len(left)])
		}
		holds(t, quiet, list)
	}
}

func TestHashesAreApart(t *testing.T) {
	one, other := New(), New()
	for i := range 200 {
		one.Put([]byte{byte(i)})
		other.Put([]byte{byte(i), 7})
	}
	var first, second []byte
	for i := range 200 {
		first, second = append(first, byte(i)), append(second, byte(i), 7)
	}
	holds(t, one, first)
	holds(t, other, second)
	holds(t, New(), nil)
}

func TestMoreBitsThanAWordHolds(t *testing.T) {
	// 2^29 bytes are 2^32 bits: the length is then more than 32 bits of it.
	part := message(1 << 20)
	h, want := New(), sha256.New()
	for range 512 {
		h.Put(part)
		want.Write(part)
	}
	h.Put(part[:3])
	want.Write(part[:3])
	if got := h.Sum(); h.Count() != 1<<29+3 || !bytes.Equal(got[:], want.Sum(nil)) {
		t.Fatalf("of %d bytes: %s, not %x", h.Count(), Hex(got), want.Sum(nil))
	}
}

// roomy is a list with more behind it, all of it told.
func roomy(list []byte) []byte {
	return slices.Concat(list, bytes.Repeat([]byte{123}, 200))
}

func TestNothingGivenIsChanged(t *testing.T) {
	for size := range 200 {
		list := roomy(message(size))
		given := list[:size]
		Of(given, given)
		h := New().Put(given)
		h.Sum()
		h.Put(given).Put(given).Sum()
		if !bytes.Equal(list, roomy(message(size))) {
			t.Fatalf("%d bytes, or the room behind them, were changed", size)
		}
	}
	parts := [][]byte{[]byte("a"), nil, []byte("bc")}
	Of(parts...)
	if string(parts[0]) != "a" || parts[1] != nil || string(parts[2]) != "bc" {
		t.Fatalf("parts became %v", parts)
	}
}

func TestWhatWasPutIsNotKept(t *testing.T) {
	// Writing over bytes that were put, and over answers, changes no later answer.
	for size := range 200 {
		list := message(size)
		h := New().Put(list)
		first := h.Sum()
		for i := range list {
			list[i] ^= 255
		}
		for i := range first {
			first[i] ^= 255
		}
		holds(t, h, message(size))
		holds(t, h.Put([]byte("more")), append(message(size), "more"...))
	}
}
