package label

import (
	"slices"
	"testing"
)

// made is an object's keys, with a memory of their own.
func made(t *testing.T, master []byte, n int) Keys {
	t.Helper()
	k, err := All(master, n)
	if err != nil {
		t.Fatal(err)
	}
	return k
}

func TestSame(t *testing.T) {
	k := made(t, message(32, 1), 5)
	if !Same(k, k) || !Same(k, made(t, message(32, 1), 5)) {
		t.Fatal("keys that are asked for twice are the same")
	}
	if Same(k, made(t, message(32, 1), 6)) || Same(k, made(t, message(32, 2), 5)) || Same(k, Keys{}) || Same(Keys{}, k) {
		t.Fatal("keys for another number, by another key, and none, are others")
	}
	if !Same(Keys{}, Keys{}) || !Same(Keys{Mask: []byte{}, Spot: []byte{}}, Keys{Place: []byte{}}) {
		t.Fatal("a list without elements and nil are the same")
	}
}

func TestSameLooksAtEachKey(t *testing.T) {
	for i := range objects() {
		k := made(t, message(32, 1), 5)
		for bit := range 256 {
			other := made(t, message(32, 1), 5)
			(*fields(&other)[i])[bit/8] ^= 1 << (bit % 8)
			if Same(k, other) || Same(other, k) {
				t.Fatalf("key %d with bit %d changed is another one", i, bit)
			}
		}
		for _, wrong := range [][]byte{nil, {}, k.Mask[:31], append(slices.Clone(*fields(&k)[i]), 0)} {
			other := made(t, message(32, 1), 5)
			*fields(&other)[i] = wrong
			if Same(k, other) || Same(other, k) {
				t.Fatalf("key %d as %x is another one", i, wrong)
			}
		}
	}
}

func TestSameHoldsKeyAgainstKey(t *testing.T) {
	for i := range objects() {
		for j := range i {
			k := made(t, message(32, 1), 5)
			one, other := fields(&k)[i], fields(&k)[j]
			*one, *other = *other, *one
			if Same(k, made(t, message(32, 1), 5)) {
				t.Fatalf("keys %d and %d in one another's place are others", i, j)
			}
			// The same bytes in all, parted at another place.
			var a, b Keys
			*fields(&a)[i], *fields(&a)[j] = []byte("a"), []byte("aa")
			*fields(&b)[i], *fields(&b)[j] = []byte("aa"), []byte("a")
			if Same(a, b) || Same(a, Keys{}) || !Same(a, a) {
				t.Fatalf("keys %d and %d, parted at another place, are others", i, j)
			}
		}
	}
	if Same(Keys{Mask: []byte{1}, Place: []byte{1}}, Keys{}) || Same(Keys{Mask: []byte{1}, Spot: []byte{3}}, Keys{Mask: []byte{3}, Spot: []byte{1}}) {
		t.Fatal("two keys that differ by the same are others")
	}
}
