package growth

import (
	"errors"
	"slices"
	"testing"

	"bailee/api"
	"bailee/sha"
	"bailee/tree"
)

// lists are lists of n leaves' digests: of leaves that differ, of ones that don't, and digests of nothing that is known.
func lists(n int) [][]sha.Digest {
	return [][]sha.Digest{leavesByTheWords(sample(n, 1)), slices.Repeat([]sha.Digest{leafByTheWords(nil)}, n), some(n, 1), make([]sha.Digest, n)}
}

func TestProofsByTheDocumentsWords(t *testing.T) {
	for _, n := range counts() {
		for _, list := range lists(n) {
			now := overByTheWords(list)
			if now != tree.Over(list) {
				t.Fatalf("of %d leaves: layer 12 has another root", n)
			}
			for _, m := range firsts(n) {
				holdsProof(t, list, m, now)
			}
		}
	}
}

// holdsProof holds a proof, and that it holds, against the document's words.
func holdsProof(t *testing.T, list []sha.Digest, m int, now sha.Digest) {
	t.Helper()
	n, old, want := len(list), overByTheWords(list[:m]), proofByTheWords(list, m, true)
	for range 2 {
		proof, err := Prove(list, m)
		if err != nil || !slices.Equal(proof, want) || len(proof) != Count(m, n) {
			t.Fatalf("the proof of %d among %d: %v, %v, not %v", m, n, plain(proof), err, plain(want))
		}
		if err := Check(m, old, n, now, proof); err != nil {
			t.Fatalf("the proof of %d among %d doesn't hold: %v", m, n, err)
		}
	}
	if m < n && !holdsByRFC9162(m, old, n, now, want) {
		t.Fatalf("the proof of %d among %d isn't RFC 9162's", m, n)
	}
}

func TestAGrowingTree(t *testing.T) {
	// Each root that a frontier had is proved to be a beginning of every later one.
	leaves := sample(130, 4)
	f := New()
	var roots []sha.Digest
	for i, b := range leaves {
		if err := f.Add(b); err != nil {
			t.Fatal(err)
		}
		roots = append(roots, f.Root())
		list := tree.Leaves(leaves[:i+1])
		for m := 1; m <= i+1; m++ {
			proof, err := Prove(list, m)
			if err != nil {
				t.Fatalf("the proof of %d among %d: %v", m, i+1, err)
			}
			if err := Check(m, roots[m-1], i+1, f.Root(), proof); err != nil {
				t.Fatalf("the root of %d leaves among %d: %v", m, i+1, err)
			}
		}
	}
}

func TestCount(t *testing.T) {
	for n := 1; n <= 512; n++ {
		for m := 1; m <= n; m++ {
			if got, want := Count(m, n), countByTheWords(m, n, true); got != want {
				t.Fatalf("Count(%d, %d) = %d, not %d", m, n, got, want)
			}
		}
		for _, m := range append(beyond(), n+1, n+2, 2*n) {
			if got := Count(m, n); got != -1 {
				t.Fatalf("Count(%d, %d) = %d", m, n, got)
			}
		}
	}
	for _, n := range append(beyond(), 514, 1000, 1023, 1<<32+5, 5-1<<32) {
		for _, m := range append(beyond(), 1, 2, 3, 256, 511, 512, n, n/2) {
			if got := Count(m, n); got != -1 {
				t.Fatalf("Count(%d, %d) = %d", m, n, got)
			}
		}
	}
}

func TestAllLeavesNeedNoDigests(t *testing.T) {
	for n := 1; n <= 512; n++ {
		if got := Count(n, n); got != 0 {
			t.Fatalf("Count(%d, %d) = %d", n, n, got)
		}
		proof, err := Prove(some(n, 1), n)
		if err != nil || len(proof) != 0 {
			t.Fatalf("the proof of all %d: %v, %v", n, plain(proof), err)
		}
		root, wrong := some(1, n)[0], some(1, n+1)[0]
		for _, none := range [][]sha.Digest{nil, {}, proof} {
			if err := Check(n, root, n, root, none); err != nil {
				t.Fatalf("all %d, with one root: %v", n, err)
			}
			if err := Check(n, root, n, wrong, none); !errors.Is(err, api.ErrProof) {
				t.Fatalf("all %d, with two roots: %v", n, err)
			}
		}
	}
}

// holdsNone holds that there is no proof of m among the leaves, whatever is handed in with it.
func holdsNone(t *testing.T, list []sha.Digest, m int) {
	t.Helper()
	n := len(list)
	if proof, err := Prove(list, m); proof != nil || !errors.Is(err, api.ErrRange) {
		t.Fatalf("the proof of %d among %d: %v, %v", m, n, plain(proof), err)
	}
	holdsNoNumbers(t, m, n)
}

// holdsNoNumbers holds that no proof is of such numbers, whatever is handed in with them.
func holdsNoNumbers(t *testing.T, m, n int) {
	t.Helper()
	if got := Count(m, n); got != -1 {
		t.Fatalf("Count(%d, %d) = %d", m, n, got)
	}
	for _, count := range []int{0, 1, 2, 9, 10, 11} {
		for _, now := range []sha.Digest{{}, sha.Of(), tree.Leaf(nil)} {
			if err := Check(m, sha.Of(), n, now, some(count, 1)); !errors.Is(err, api.ErrRange) {
				t.Fatalf("Check(%d, %d) of %d digests: %v", m, n, count, err)
			}
		}
	}
}

func TestNoSuchFirstLeaves(t *testing.T) {
	for _, n := range append(counts(), 0) {
		for _, m := range append(beyond(), n+1, n+2, 2*n+1) {
			holdsNone(t, some(n, 1), m)
		}
	}
}

func TestTooManyLeaves(t *testing.T) {
	for _, n := range []int{513, 514, 1023, 1024, 1025, 70000} {
		for _, m := range append(beyond(), 1, 2, 256, 511, 512, n-1, n, n+1) {
			holdsNone(t, make([]sha.Digest, n), m)
		}
	}
	list := some(513, 1)
	holdsNone(t, list, 512)
	if proof, err := Prove(list[:512], 511); err != nil || len(proof) != 10 {
		t.Fatalf("the proof of 511 among 512: %d digests, %v", len(proof), err)
	}
	for _, n := range append(beyond(), 1<<32+5, 5-1<<32) {
		for _, m := range append(beyond(), 1, 2, 512, n) {
			holdsNoNumbers(t, m, n)
		}
	}
}

func TestGoingOverPartsMayBreakOff(t *testing.T) {
	for n := 1; n <= 40; n++ {
		for m := 1; m <= n; m++ {
			var want []part
			for p := range parts(m, n) {
				want = append(want, p)
			}
			for stop := range want {
				var got []part
				for p := range parts(m, n) {
					got = append(got, p)
					if len(got) > stop {
						break
					}
				}
				if !slices.Equal(got, want[:stop+1]) {
					t.Fatalf("%d among %d, up to number %d: %v, not %v", m, n, stop, got, want[:stop+1])
				}
			}
		}
	}
}
