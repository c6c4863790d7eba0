package path

import (
	"bytes"
	"errors"
	"slices"
	"testing"

	"bailee/api"
	"bailee/sha"
	"bailee/tree"
)

func TestFoldByTheDocumentsWords(t *testing.T) {
	// Of digests that are no leaf's path, too: each makes some root.
	for _, n := range counts() {
		for _, i := range places(n) {
			path, leaf := some(lengthByTheWords(n, i), n), message((n+i)%70, 1)
			want := foldByTheWords(n, i, leaf, path)
			for range 2 {
				if got, err := Fold(n, i, leaf, path); err != nil || got != want {
					t.Fatalf("Fold(%d, %d) = %s, %v, not %s", n, i, sha.Hex(got), err, sha.Hex(want))
				}
			}
			if err := Check(want, n, i, leaf, path); err != nil {
				t.Fatalf("what Fold(%d, %d) makes isn't right: %v", n, i, err)
			}
			if err := Check(sha.Digest{}, n, i, leaf, path); !errors.Is(err, api.ErrProof) {
				t.Fatalf("no root is made of noughts: %v", err)
			}
		}
	}
}

func TestPathsOfOtherLengths(t *testing.T) {
	for _, n := range few() {
		leaves := sample(n, 1)
		root := tree.Root(leaves)
		for _, i := range places(n) {
			right := lengthByTheWords(n, i)
			whole := append(pathByTheWords(leaves, i), some(3, 1)...)
			for _, size := range []int{0, right - 1, right + 1, right + 2} {
				if size < 0 || size == right {
					continue
				}
				if got, err := Fold(n, i, leaves[i], whole[:size]); got != (sha.Digest{}) || !errors.Is(err, api.ErrSize) {
					t.Fatalf("Fold(%d, %d) of %d digests = %s, %v", n, i, size, sha.Hex(got), err)
				}
				if err := Check(root, n, i, leaves[i], whole[:size]); !errors.Is(err, api.ErrSize) {
					t.Fatalf("Check(%d, %d) of %d digests: %v", n, i, size, err)
				}
				holdsNoClash(t, leaves, i, leaves[i], whole[:size])
				holdsNoClash(t, leaves, i, []byte("other"), whole[:size])
			}
		}
	}
	if _, err := Fold(5, 1, nil, make([]sha.Digest, 100000)); !errors.Is(err, api.ErrSize) {
		t.Fatalf("Fold of 100000 digests: %v", err)
	}
}

// refused holds that a path doesn't hold, and that what it makes is what the document says.
func refused(t *testing.T, root sha.Digest, n, i int, leaf []byte, path []sha.Digest) {
	t.Helper()
	if err := Check(root, n, i, leaf, path); !errors.Is(err, api.ErrProof) {
		t.Fatalf("leaf %d of %d, %x: %v", i, n, leaf, err)
	}
	got, err := Fold(n, i, leaf, path)
	if err != nil || got == root || got != foldByTheWords(n, i, leaf, path) {
		t.Fatalf("leaf %d of %d, %x, makes %s, %v", i, n, leaf, sha.Hex(got), err)
	}
}

// others are byte strings that aren't a leaf's.
func others(leaf []byte) [][]byte {
	var list [][]byte
	for bit := range 8 * len(leaf) {
		b := bytes.Clone(leaf)
		b[bit/8] ^= 1 << (bit % 8)
		list = append(list, b)
	}
	for _, b := range [][]byte{nil, {0}, {1}, append(bytes.Clone(leaf), 0), append([]byte{0}, leaf...), append([]byte{1}, leaf...), leaf[len(leaf)/2:], tree.Outer(leaf)} {
		if !bytes.Equal(b, leaf) {
			list = append(list, b)
		}
	}
	return list
}

func TestNoPathHoldsForAnotherLeaf(t *testing.T) {
	for _, n := range []int{1, 2, 3, 4, 5, 6, 7, 8, 9, 13, 16, 17, 33} {
		leaves := sample(n, 1)
		root := tree.Root(leaves)
		for i, leaf := range leaves {
			path := pathByTheWords(leaves, i)
			for _, b := range others(leaf) {
				refused(t, root, n, i, b, path)
				holdsNoClash(t, leaves, i, b, path)
			}
			for j, b := range leaves {
				if !bytes.Equal(b, leaf) {
					refused(t, root, n, i, b, path)
					holdsNoClash(t, leaves, i, b, path)
				}
				if j != i && lengthByTheWords(n, j) == len(path) {
					refused(t, root, n, j, leaf, path)
					holdsNoClash(t, leaves, j, leaf, path)
				}
			}
		}
	}
}

func TestNoOtherPathHolds(t *testing.T) {
	for _, n := range []int{2, 3, 4, 5, 7, 8, 11, 16, 17, 100, 512} {
		leaves := sample(n, 1)
		root := tree.Root(leaves)
		for _, i := range places(n) {
			path := pathByTheWords(leaves, i)
			for j := range path {
				for _, bit := range []int{0, 7, 8, 128, 255} {
					other := slices.Clone(path)
					other[j][bit/8] ^= 1 << (bit % 8)
					refused(t, root, n, i, leaves[i], other)
				}
				if j > 0 {
					other := slices.Clone(path)
					other[j], other[j-1] = other[j-1], other[j]
					refused(t, root, n, i, leaves[i], other)
				}
			}
		}
	}
}

func TestNoOtherRootIsRight(t *testing.T) {
	for _, n := range []int{1, 2, 3, 5, 8, 17, 512} {
		leaves := sample(n, 1)
		right := tree.Root(leaves)
		for _, i := range places(n) {
			path := pathByTheWords(leaves, i)
			for bit := range 256 {
				root := right
				root[bit/8] ^= 1 << (bit % 8)
				if err := Check(root, n, i, leaves[i], path); !errors.Is(err, api.ErrProof) {
					t.Fatalf("leaf %d of %d: with bit %d of the root changed: %v", i, n, bit, err)
				}
			}
			for _, root := range []sha.Digest{{}, sha.Of(), tree.Root(leaves[:n-1]), tree.Root(append(slices.Clone(leaves), nil))} {
				if err := Check(root, n, i, leaves[i], path); !errors.Is(err, api.ErrProof) {
					t.Fatalf("leaf %d of %d: under another root: %v", i, n, err)
				}
			}
		}
	}
}

func TestANodeIsNoLeaf(t *testing.T) {
	// The bytes of the node above leaves 0 and 1 are no leaf that stands where both are under.
	for n := 3; n <= 40; n++ {
		leaves := sample(n, 1)
		path := pathByTheWords(leaves, 0)
		inner := tree.Inner(tree.Leaf(leaves[0]), tree.Leaf(leaves[1]))
		for _, leaf := range [][]byte{inner, inner[1:]} {
			if err := Check(tree.Root(leaves), n, 0, leaf, path[1:]); !errors.Is(err, api.ErrSize) {
				t.Fatalf("of %d: a node as a leaf: %v", n, err)
			}
			for m := 1; m <= n; m++ {
				if lengthByTheWords(m, 0) == len(path)-1 {
					refused(t, tree.Root(leaves), m, 0, leaf, path[1:])
				}
			}
		}
	}
}
