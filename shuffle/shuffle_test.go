package shuffle

import (
	"errors"
	"slices"
	"testing"

	"bailee/api"
)

// order is an order that there must be.
func order(t *testing.T, key []byte, n int) *Order {
	t.Helper()
	o, err := New(key, n)
	if err != nil || o == nil {
		t.Fatalf("New(%x, %d) = %v, %v", key, n, o, err)
	}
	return o
}

// holdsPlace holds that a number has that place, and the place leads back, twice.
func holdsPlace(t *testing.T, o *Order, i, want int) {
	t.Helper()
	for range 2 {
		if got, err := o.To(i); err != nil || got != want {
			t.Fatalf("of %d places, To(%d) = %d, %v, not %d", o.Size(), i, got, err, want)
		}
		if got, err := o.From(want); err != nil || got != i {
			t.Fatalf("of %d places, From(%d) = %d, %v, not %d", o.Size(), want, got, err, i)
		}
	}
}

// holdsOrder holds an order of at most 1024 places against the ones that are wanted, in all calls.
func holdsOrder(t *testing.T, key []byte, want []int) {
	t.Helper()
	o := order(t, key, len(want))
	for range 2 {
		if got := o.All(); !slices.Equal(got, want) || cap(got) != len(want) {
			t.Fatalf("New(%x, %d).All() = %v, not %v", key, len(want), got, want)
		}
	}
	for i, p := range want {
		holdsPlace(t, o, i, p)
	}
}

func TestKnownOrders(t *testing.T) {
	for _, row := range knownOrders() {
		holdsOrder(t, row.key, row.want)
	}
	for _, row := range knownPlaces() {
		holdsPlace(t, order(t, row.key, row.n), row.i, row.want)
	}
}

func TestOnePlace(t *testing.T) {
	for seed := range 50 {
		for _, key := range append(keys(), message(32, seed)) {
			holdsOrder(t, key, []int{0})
		}
	}
}

func TestSizeAndBitsByTheDocumentsWords(t *testing.T) {
	list := sizes()
	for n := 1; n <= 5000; n++ {
		list = append(list, n)
	}
	for _, key := range [][]byte{nil, []byte("key"), message(65, 1)} {
		for _, n := range list {
			o := order(t, key, n)
			if o.Size() != n || o.Bits() != bitsByTheWords(n) {
				t.Fatalf("of %d places: %d, and %d bits", n, o.Size(), o.Bits())
			}
		}
	}
	if got := order(t, nil, mostPlaces).Bits(); got != 10 {
		t.Fatalf("of 2^20 places: %d bits", got)
	}
}

func TestOrdersByTheDocumentsWords(t *testing.T) {
	for _, key := range keys() {
		for n := 1; n <= 20; n++ {
			holdsOrder(t, key, placesByTheWords(key, n))
		}
		for _, n := range sizes() {
			o := order(t, key, n)
			for _, i := range some(n) {
				holdsPlace(t, o, i, placeByTheWords(key, n, i))
			}
		}
	}
	for _, n := range []int{63, 64, 65, 255, 256, 257, 1023, 1024} {
		holdsOrder(t, message(32, n), placesByTheWords(message(32, n), n))
	}
}

// holdsAllPlaces holds that the places of all numbers are all places, each once, and From leads back.
func holdsAllPlaces(t *testing.T, key []byte, n int) {
	t.Helper()
	o, seen := order(t, key, n), make([]int, n)
	for i := range n {
		p, err := o.To(i)
		if err != nil || p < 0 || p >= n {
			t.Fatalf("of %d places by %x, To(%d) = %d, %v", n, key, i, p, err)
		}
		if seen[p]++; seen[p] > 1 {
			t.Fatalf("of %d places by %x, %d is that of two numbers", n, key, p)
		}
		if back, err := o.From(p); err != nil || back != i {
			t.Fatalf("of %d places by %x, From(%d) = %d, %v, not %d", n, key, p, back, err, i)
		}
	}
}

func TestThePlacesOfAllNumbersAreAllPlaces(t *testing.T) {
	for _, key := range keys() {
		for n := 1; n <= 70; n++ {
			holdsAllPlaces(t, key, n)
		}
	}
	for n := 71; n <= 300; n++ {
		holdsAllPlaces(t, message(32, n), n)
	}
	for _, n := range []int{1023, 1024, 1025, 4095, 4096, 4097} {
		holdsAllPlaces(t, message(32, n), n)
	}
}

func TestFromLeadsBackToEachPlace(t *testing.T) {
	for _, key := range keys() {
		for _, n := range sizes() {
			o := order(t, key, n)
			for _, p := range some(n) {
				i, err := o.From(p)
				if err != nil || i < 0 || i >= n {
					t.Fatalf("of %d places by %x, From(%d) = %d, %v", n, key, p, i, err)
				}
				holdsPlace(t, o, i, p)
			}
		}
	}
}

func TestAllTellsNoneOfMoreThan1024(t *testing.T) {
	for _, n := range append(sizes(), 1024, 1026, 2048) {
		want := n
		if n > 1024 {
			want = 0
		}
		if got := order(t, []byte("key"), n).All(); len(got) != want {
			t.Fatalf("of %d places, All tells %d", n, len(got))
		}
	}
}

// noNumbers are numbers that are none below n.
func noNumbers(n int) []int {
	return []int{n, n + 1, 2 * n, -1, -n, -n - 1, mostPlaces, mostPlaces + 1, 1 << 32, 1<<63 - 1, -1 << 63}
}

// refuses holds that an order has none of those numbers, and none of those places.
func refuses(t *testing.T, o *Order, list []int) {
	t.Helper()
	for _, x := range list {
		if got, err := o.To(x); got != 0 || !errors.Is(err, api.ErrRange) {
			t.Fatalf("of %d places, To(%d) = %d, %v", o.Size(), x, got, err)
		}
		if got, err := o.From(x); got != 0 || !errors.Is(err, api.ErrRange) {
			t.Fatalf("of %d places, From(%d) = %d, %v", o.Size(), x, got, err)
		}
	}
}

func TestToAndFromBeyondTheirRange(t *testing.T) {
	for _, key := range keys() {
		for _, n := range sizes() {
			refuses(t, order(t, key, n), noNumbers(n))
		}
	}
	// Within the two halves, but no place of the order.
	for n := 17; n < 64; n++ {
		o := order(t, []byte("key"), n)
		for x := n; x < 64; x++ {
			refuses(t, o, []int{x})
		}
	}
}

func TestNewBeyondItsRange(t *testing.T) {
	for _, key := range keys() {
		for _, n := range []int{0, -1, -4, -mostPlaces, -1 << 63, mostPlaces + 1, 4 * mostPlaces, 1 << 32, 1 << 40, 1 << 62, 1<<63 - 1} {
			if o, err := New(key, n); o != nil || !errors.Is(err, api.ErrRange) {
				t.Fatalf("New(%x, %d) = %v, %v", key, n, o, err)
			}
		}
	}
}

func TestTheZeroOrderHasNoPlaces(t *testing.T) {
	var o Order
	if o.Size() != 0 || o.Bits() != 0 || len(o.All()) != 0 {
		t.Fatalf("%d places, %d bits, %v", o.Size(), o.Bits(), o.All())
	}
	refuses(t, &o, append(noNumbers(0), 1, 2))
}
