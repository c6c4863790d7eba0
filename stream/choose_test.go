package stream

import (
	"errors"
	"slices"
	"testing"

	"bailee/api"
)

// lastRound is the last round, 2^30.
const lastRound = 1073741824

func TestKnownChoices(t *testing.T) {
	for _, row := range knownChoices() {
		got, err := Choose(row.key, row.round, row.n, row.k)
		if err != nil || !slices.Equal(got, row.want) {
			t.Fatalf("Choose(%x, %d, %d, %d) = %v, %v, not %v", row.key, row.round, row.n, row.k, got, err, row.want)
		}
	}
}

// holdsChoice holds what is chosen against the document's words.
func holdsChoice(t *testing.T, key []byte, round, n, k int) {
	t.Helper()
	got, err := Choose(key, round, n, k)
	if err != nil || !slices.Equal(got, chosenByTheWords(key, round, n, k)) || cap(got) != k {
		t.Fatalf("Choose(%x, %d, %d, %d) = %v, %v", key, round, n, k, got, err)
	}
	areApart(t, got, n, k)
	if again, err := Choose(key, round, n, k); err != nil || !slices.Equal(again, got) {
		t.Fatalf("Choose(%x, %d, %d, %d) = %v, %v, and %v ahead of it", key, round, n, k, again, err, got)
	}
}

// areApart holds that numbers are as many, all below n, and no two alike.
func areApart(t *testing.T, list []int, n, k int) {
	t.Helper()
	seen := make([]int, n)
	for _, number := range list {
		if number < 0 || number >= n {
			t.Fatalf("of %d, %d chosen: %d isn't below", n, k, number)
		}
		if seen[number]++; seen[number] > 1 {
			t.Fatalf("of %d, %d chosen: %d is there twice", n, k, number)
		}
	}
	if len(list) != k {
		t.Fatalf("of %d, %d chosen: there are %d", n, k, len(list))
	}
}

func TestChooseByTheDocumentsWords(t *testing.T) {
	for _, key := range keys() {
		for n := range 13 {
			for k := range n + 1 {
				for _, round := range []int{0, 1, 2, 1023, 1024, 1025, 1 << 22, lastRound - 1, lastRound} {
					holdsChoice(t, key, round, n, k)
				}
			}
		}
	}
	for round := range 300 {
		holdsChoice(t, []byte("key"), round, 255, 12)
	}
}

func TestChooseOfManyNumbers(t *testing.T) {
	for _, round := range []int{0, 1, lastRound - 1, lastRound} {
		for _, n := range []int{31, 32, 33, 255, 256, 257, 511, 512, 1000, 1023, 1024} {
			for _, k := range []int{0, 1, 2, 12, n / 2, n - 1, n} {
				holdsChoice(t, message(32, 7), round, n, min(k, n))
			}
		}
	}
}

func TestChooseFewerIsTheFirstOfThem(t *testing.T) {
	for _, n := range []int{1, 2, 7, 40, 255} {
		all, err := Choose([]byte("key"), 5, n, n)
		if err != nil {
			t.Fatal(err)
		}
		for k := range n + 1 {
			if got, err := Choose([]byte("key"), 5, n, k); err != nil || !slices.Equal(got, all[:k]) {
				t.Fatalf("Choose %d of %d = %v, %v, not %v", k, n, got, err, all[:k])
			}
		}
	}
}

func TestChooseNone(t *testing.T) {
	for _, key := range keys() {
		for _, n := range []int{0, 1, 5, 1024} {
			for _, round := range []int{0, 1, lastRound} {
				if got, err := Choose(key, round, n, 0); err != nil || len(got) != 0 {
					t.Fatalf("Choose(%x, %d, %d, 0) = %v, %v", key, round, n, got, err)
				}
			}
		}
	}
}

func TestChooseBeyondItsRange(t *testing.T) {
	rounds := []int{0, lastRound, -1, -lastRound, lastRound + 1, 1 << 40, 1 << 53, 1 << 54, 1<<63 - 1, -1 << 63}
	sizes := []int{0, 1, 5, 1023, 1024, 1025, 2048, 1 << 32, 1<<63 - 1, -1, -5, -1 << 63}
	for _, round := range rounds {
		for _, n := range sizes {
			for _, k := range []int{0, 1, 4, 5, 6, 1023, 1024, 1025, 1 << 32, 1<<63 - 1, -1, -5, -1 << 63, n - 1, n, n + 1} {
				ok := round >= 0 && round <= lastRound && n >= 0 && n <= 1024 && k >= 0 && k <= n
				got, err := Choose([]byte("key"), round, n, k)
				if ok != (err == nil) || !ok && (got != nil || !errors.Is(err, api.ErrRange)) {
					t.Fatalf("Choose(%d, %d, %d) = %v, %v", round, n, k, got, err)
				}
			}
		}
	}
}
