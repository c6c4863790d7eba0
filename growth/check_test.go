package growth

import (
	"errors"
	"slices"
	"testing"

	"bailee/api"
	"bailee/sha"
	"bailee/tree"
)

func TestCheckByTheDocumentsWords(t *testing.T) {
	// Of digests that are no tree's, too: each proof makes some roots.
	for _, n := range counts() {
		for _, m := range firsts(n) {
			proof, old := some(countByTheWords(m, n, true), n), some(1, m+n)[0]
			first, all := madeByTheWords(m, n, true, old, proof)
			for range 2 {
				if err := Check(m, first, n, all, proof); err != nil {
					t.Fatalf("what the proof of %d among %d makes isn't right: %v", m, n, err)
				}
			}
			if m < n && !holdsByRFC9162(m, first, n, all, proof) {
				t.Fatalf("what the proof of %d among %d makes isn't RFC 9162's", m, n)
			}
			refused(t, m, first, n, sha.Digest{}, proof)
			refused(t, m, sha.Digest{}, n, all, proof)
		}
	}
}

// refused holds that a proof doesn't hold.
func refused(t *testing.T, m int, old sha.Digest, n int, now sha.Digest, proof []sha.Digest) {
	t.Helper()
	if err := Check(m, old, n, now, proof); !errors.Is(err, api.ErrProof) {
		t.Fatalf("%d among %d, %s and %s, by %v: %v", m, n, sha.Hex(old), sha.Hex(now), plain(proof), err)
	}
	if m < n && holdsByRFC9162(m, old, n, now, proof) {
		t.Fatalf("%d among %d, %s and %s, by %v: RFC 9162 has it right", m, n, sha.Hex(old), sha.Hex(now), plain(proof))
	}
}

func TestProofsOfOtherLengths(t *testing.T) {
	for _, n := range few() {
		list := leavesByTheWords(sample(n, 1))
		now := overByTheWords(list)
		for _, m := range firsts(n) {
			old, right := overByTheWords(list[:m]), countByTheWords(m, n, true)
			whole := append(proofByTheWords(list, m, true), some(3, 1)...)
			for _, count := range []int{0, 1, right - 1, right + 1, right + 2} {
				if count < 0 || count == right || count > len(whole) {
					continue
				}
				for _, root := range []sha.Digest{now, old, {}} {
					if err := Check(m, old, n, root, whole[:count]); !errors.Is(err, api.ErrSize) {
						t.Fatalf("Check(%d, %d) of %d digests: %v", m, n, count, err)
					}
				}
			}
			if right > 0 {
				if err := Check(m, old, n, now, whole[1:right]); !errors.Is(err, api.ErrSize) {
					t.Fatalf("Check(%d, %d) without the first digest: %v", m, n, err)
				}
			}
			if err := Check(m, old, n, now, append([]sha.Digest{old}, whole[:right]...)); !errors.Is(err, api.ErrSize) {
				t.Fatalf("Check(%d, %d) with the old root ahead of all: %v", m, n, err)
			}
		}
	}
	if err := Check(3, sha.Of(), 5, sha.Of(), make([]sha.Digest, 100000)); !errors.Is(err, api.ErrSize) {
		t.Fatalf("Check of 100000 digests: %v", err)
	}
}

func TestNoOtherRootIsRight(t *testing.T) {
	for _, n := range few() {
		list := leavesByTheWords(sample(n, 1))
		now := overByTheWords(list)
		for _, m := range firsts(n) {
			old, proof := overByTheWords(list[:m]), proofByTheWords(list, m, true)
			for bit := 0; bit < 256; bit += 5 {
				refused(t, m, other(old, bit), n, now, proof)
				refused(t, m, old, n, other(now, bit), proof)
				if m < n {
					refused(t, m, other(old, bit), n, other(now, bit), proof)
				}
			}
			for _, d := range append([]sha.Digest{{}, sha.Of(), list[0], list[m-1], list[n-1]}, proof...) {
				if d != old {
					refused(t, m, d, n, now, proof)
				}
				if d != now {
					refused(t, m, old, n, d, proof)
				}
			}
			if m < n {
				refused(t, m, now, n, old, proof)
				refused(t, m, old, n, old, proof)
				refused(t, m, now, n, now, proof)
			}
		}
	}
}

func TestNoRootOfOtherLeavesIsRight(t *testing.T) {
	// The root of so many leaves that aren't all the first ones, with their own proof or with that of the first ones.
	for _, n := range []int{1, 2, 3, 4, 5, 6, 7, 8, 9, 13, 16, 17, 33} {
		list := leavesByTheWords(sample(n, 1))
		now := overByTheWords(list)
		for m := 1; m <= n; m++ {
			proof := proofByTheWords(list, m, true)
			for i := range n {
				others := slices.Clone(list)
				others[i] = leafByTheWords([]byte("other"))
				old, own := overByTheWords(others[:m]), proofByTheWords(others, m, true)
				if i < m {
					refused(t, m, old, n, now, proof)
					refused(t, m, old, n, now, own)
				}
				holdsLikeTheWords(t, m, old, n, overByTheWords(others), proof)
				holdsLikeTheWords(t, m, old, n, now, own)
			}
			for k := 1; k <= n; k++ {
				if k != m && overByTheWords(list[:k]) != overByTheWords(list[:m]) {
					refused(t, m, overByTheWords(list[:k]), n, now, proof)
				}
			}
		}
	}
}

func TestNoOtherProofHolds(t *testing.T) {
	for _, n := range few() {
		list := leavesByTheWords(sample(n, 1))
		now := overByTheWords(list)
		for _, m := range firsts(n) {
			old, own := overByTheWords(list[:m]), proofByTheWords(list, m, true)
			for j := range own {
				for _, bit := range []int{0, 7, 8, 128, 255} {
					holdsForNone(t, m, old, n, now, changed(own, j, other(own[j], bit)))
				}
				for _, d := range []sha.Digest{{}, old, now, sha.Of()} {
					if d != own[j] {
						holdsForNone(t, m, old, n, now, changed(own, j, d))
					}
				}
				if j > 0 && own[j] != own[j-1] {
					holdsForNone(t, m, old, n, now, changed(changed(own, j, own[j-1]), j-1, own[j]))
				}
			}
		}
	}
}

// changed is a proof with another digest at place j.
func changed(proof []sha.Digest, j int, d sha.Digest) []sha.Digest {
	list := slices.Clone(proof)
	list[j] = d
	return list
}

// holdsForNone holds that a proof that isn't the leaves' own one holds neither for their roots nor for that root of the first ones which it makes.
func holdsForNone(t *testing.T, m int, old sha.Digest, n int, now sha.Digest, proof []sha.Digest) {
	t.Helper()
	first, all := madeByTheWords(m, n, true, old, proof)
	if all == now {
		t.Fatalf("%d among %d, by %v: there is a clash", m, n, plain(proof))
	}
	refused(t, m, old, n, now, proof)
	refused(t, m, first, n, now, proof)
	refused(t, m, all, n, now, proof)
	if first != old {
		refused(t, m, old, n, all, proof)
	}
}

func TestOtherNumbersOfLeaves(t *testing.T) {
	// A proof of m among n is none of other numbers, where as many digests are asked for and the sides aren't the same.
	for n := 2; n <= 20; n++ {
		list := leavesByTheWords(sample(n, 1))
		now := overByTheWords(list)
		for m := 1; m < n; m++ {
			old, proof := overByTheWords(list[:m]), proofByTheWords(list, m, true)
			for n2 := 1; n2 <= 40; n2++ {
				for m2 := 1; m2 <= n2; m2++ {
					holdsLikeTheWords(t, m2, old, n2, now, proof)
				}
			}
		}
	}
}

// holdsLikeTheWords holds Check against the document's words, whatever is handed in.
func holdsLikeTheWords(t *testing.T, m int, old sha.Digest, n int, now sha.Digest, proof []sha.Digest) {
	t.Helper()
	var want error
	if len(proof) != countByTheWords(m, n, true) {
		want = api.ErrSize
	} else if first, all := madeByTheWords(m, n, true, old, proof); first != old || all != now {
		want = api.ErrProof
	}
	if err := Check(m, old, n, now, proof); !errors.Is(err, want) {
		t.Fatalf("%d among %d, %s and %s, by %v: %v, not %v", m, n, sha.Hex(old), sha.Hex(now), plain(proof), err, want)
	}
}

func TestThePathOfTheFirstLeaf(t *testing.T) {
	// The proof of one leaf is its path: the leaf's digest is the old root.
	for n := 1; n <= 64; n++ {
		leaves := sample(n, 1)
		proof, err := Prove(tree.Leaves(leaves), 1)
		if err != nil {
			t.Fatal(err)
		}
		if err := Check(1, tree.Leaf(leaves[0]), n, tree.Root(leaves), proof); err != nil {
			t.Fatalf("1 among %d: %v", n, err)
		}
		if n > 1 {
			refused(t, 1, tree.Leaf([]byte("other")), n, tree.Root(leaves), proof)
		}
	}
}
