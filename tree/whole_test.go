package tree

import (
	"slices"
	"testing"

	"bailee/sha"
)

func TestGoingOverDigestsMayBreakOff(t *testing.T) {
	leaves := sample(9, 1)
	for stop := range 9 {
		var got []sha.Digest
		for d := range digests(leaves) {
			got = append(got, d)
			if len(got) > stop {
				break
			}
		}
		if want := leavesByTheWords(leaves[:stop+1]); !slices.Equal(got, want) {
			t.Fatalf("up to leaf %d: %v, not %v", stop, got, want)
		}
	}
}
