package shuffle

import (
	"errors"
	"testing"

	"bailee/api"
)

func TestKnownSteps(t *testing.T) {
	for _, row := range knownSteps() {
		if got, err := Step(row.key, row.w, row.x); err != nil || got != row.want {
			t.Fatalf("Step(%x, %d, %d) = %d, %v, not %d", row.key, row.w, row.x, got, err, row.want)
		}
	}
}

// holdsStep holds a step against the document's words, twice.
func holdsStep(t *testing.T, key []byte, w, x int) {
	t.Helper()
	want := stepByTheWords(key, w, x)
	for range 2 {
		if got, err := Step(key, w, x); err != nil || got != want {
			t.Fatalf("Step(%x, %d, %d) = %d, %v, not %d", key, w, x, got, err, want)
		}
	}
}

func TestStepByTheDocumentsWords(t *testing.T) {
	for _, key := range keys() {
		for w := 1; w <= 10; w++ {
			for _, x := range some(power(4, w)) {
				holdsStep(t, key, w, x)
			}
		}
		for w := 1; w <= 3; w++ {
			for x := range power(4, w) {
				holdsStep(t, key, w, x)
			}
		}
	}
	for size := range 140 {
		holdsStep(t, message(size, 2), 1+size%10, size%4)
	}
}

func TestStepTakesEachNumberToAnother(t *testing.T) {
	for _, key := range keys() {
		for w := 1; w <= 5; w++ {
			seen := make([]int, power(4, w))
			for x := range seen {
				got, err := Step(key, w, x)
				if err != nil || got < 0 || got >= len(seen) {
					t.Fatalf("Step(%x, %d, %d) = %d, %v", key, w, x, got, err)
				}
				if seen[got]++; seen[got] > 1 {
					t.Fatalf("Step(%x, %d, %d) = %d, as of another one", key, w, x, got)
				}
			}
		}
	}
}

func TestStepBeyondItsRange(t *testing.T) {
	halves := []int{-1 << 63, -64, -10, -1, 0, 1, 2, 5, 9, 10, 11, 12, 31, 32, 63, 64, 65, 1 << 32, 1<<63 - 1}
	numbers := []int{-1 << 63, -mostPlaces, -4, -1, 0, 3, 4, 5, 15, 16, 17, 1<<18 - 1, 1 << 18, mostPlaces - 1, mostPlaces, mostPlaces + 1, 4 * mostPlaces, 1 << 32, 1 << 62, 1<<63 - 1}
	for _, key := range keys() {
		for _, w := range halves {
			for _, x := range numbers {
				ok := w >= 1 && w <= 10 && x >= 0 && x < power(4, min(max(w, 0), 20))
				got, err := Step(key, w, x)
				if ok != (err == nil) || !ok && (got != 0 || !errors.Is(err, api.ErrRange)) {
					t.Fatalf("Step(%x, %d, %d) = %d, %v", key, w, x, got, err)
				}
			}
		}
	}
}
