package tree

import (
	"bytes"
	"crypto/sha256"
	"slices"
	"testing"

	"bailee/sha"
)

// holdsRoots holds all roots of leaves against the document's words.
func holdsRoots(t *testing.T, leaves [][]byte) {
	t.Helper()
	want, list := rootByTheWords(leaves), leavesByTheWords(leaves)
	for range 2 {
		if got := Root(leaves); got != want {
			t.Fatalf("of %d leaves: %s, not %s", len(leaves), sha.Hex(got), sha.Hex(want))
		}
		if got := Leaves(leaves); !slices.Equal(got, list) {
			t.Fatalf("of %d leaves: the digests are %v, not %v", len(leaves), got, list)
		}
		if got := Over(list); got != want {
			t.Fatalf("over %d digests: %s, not %s", len(leaves), sha.Hex(got), sha.Hex(want))
		}
	}
}

func TestRootsByTheDocumentsWords(t *testing.T) {
	for _, n := range counts() {
		holdsRoots(t, sample(n, 1))
		holdsRoots(t, alike(n, []byte("the same")))
		holdsRoots(t, alike(n, nil))
		holdsRoots(t, alike(n, []byte{}))
	}
	holdsRoots(t, sample(1<<16+1<<9+1, 2))
}

func TestKnownRoots(t *testing.T) {
	for n, want := range rootsOfRFC6962() {
		if got := sha.Hex(Root(ofRFC6962()[:n])); got != want {
			t.Fatalf("of %d leaves: %s, not %s", n, got, want)
		}
	}
	for _, row := range knownRoots() {
		if got := sha.Hex(Root(counted(row.n))); got != row.want {
			t.Fatalf("of %d leaves: %s, not %s", row.n, got, row.want)
		}
		if got := sha.Hex(Over(Leaves(counted(row.n)))); got != row.want {
			t.Fatalf("over %d digests: %s, not %s", row.n, got, row.want)
		}
	}
}

func TestNoLeaves(t *testing.T) {
	want := sha.Digest(sha256.Sum256(nil))
	for _, got := range []sha.Digest{Root(nil), Root([][]byte{}), Over(nil), Over([]sha.Digest{})} {
		if got != want {
			t.Fatalf("of none: %s, not %s", sha.Hex(got), sha.Hex(want))
		}
	}
	if len(Leaves(nil)) != 0 || len(Leaves([][]byte{})) != 0 {
		t.Fatal("no leaves have no digests")
	}
}

func TestOneLeaf(t *testing.T) {
	for _, b := range [][]byte{nil, {}, {0}, {1}, []byte("leaf"), message(5000, 1)} {
		if got := Root([][]byte{b}); got != leafByTheWords(b) {
			t.Fatalf("of a leaf of %d bytes: %s", len(b), sha.Hex(got))
		}
	}
	// A digest that is handed in is taken as it is: whatever it is the digest of.
	for _, d := range []sha.Digest{{}, sha.Of(), Leaf(nil), Node(sha.Digest{}, sha.Of())} {
		if got := Over([]sha.Digest{d}); got != d {
			t.Fatalf("over %s alone: %s", sha.Hex(d), sha.Hex(got))
		}
	}
}

func TestLeafAndItsBytes(t *testing.T) {
	for size := range 200 {
		for seed := range 3 {
			holdsLeaf(t, message(size, seed))
		}
		holdsLeaf(t, make([]byte, size))
		holdsLeaf(t, bytes.Repeat([]byte{1}, size))
		holdsLeaf(t, bytes.Repeat([]byte{255}, size))
	}
	for b := range 256 {
		holdsLeaf(t, []byte{byte(b)})
	}
	holdsLeaf(t, nil)
	holdsLeaf(t, message(100000, 1))
}

// holdsLeaf holds a leaf's digest, and the bytes that it is of, against the document's words.
func holdsLeaf(t *testing.T, b []byte) {
	t.Helper()
	if got, want := Leaf(b), leafByTheWords(b); got != want {
		t.Fatalf("Leaf of %x = %s, not %s", b, sha.Hex(got), sha.Hex(want))
	}
	if got, want := Outer(b), slices.Concat([]byte{0}, b); !bytes.Equal(got, want) || sha.Of(got) != Leaf(b) {
		t.Fatalf("Outer of %x = %x, not %x", b, got, want)
	}
}

func TestNodeAndItsBytes(t *testing.T) {
	list := []sha.Digest{{}, sha.Of(), Leaf(nil), sha.Digest(bytes.Repeat([]byte{255}, 32)), sha.Digest(bytes.Repeat([]byte{1}, 32))}
	for i := range 256 {
		var d sha.Digest
		d[i/8] = 1 << (i % 8)
		list = append(list, d)
	}
	for _, left := range list {
		for _, right := range list {
			if got, want := Node(left, right), nodeByTheWords(left, right); got != want {
				t.Fatalf("Node(%s, %s) = %s, not %s", sha.Hex(left), sha.Hex(right), sha.Hex(got), sha.Hex(want))
			}
			got, want := Inner(left, right), slices.Concat([]byte{1}, left[:], right[:])
			if !bytes.Equal(got, want) || sha.Of(got) != Node(left, right) {
				t.Fatalf("Inner(%s, %s) = %x", sha.Hex(left), sha.Hex(right), got)
			}
		}
	}
}

func TestSplit(t *testing.T) {
	if Split(5) != 4 || Split(2) != 1 || Split(3) != 2 || Split(4) != 2 {
		t.Fatal("the split is the greatest power of two below n")
	}
	for _, n := range least() {
		if got := Split(n); got != 0 {
			t.Fatalf("Split(%d) = %d", n, got)
		}
	}
	for n := 2; n < 5000; n++ {
		holdsSplit(t, n)
	}
	for _, n := range most() {
		holdsSplit(t, n)
	}
}

// holdsSplit holds a split: a power of two below n, and the next one isn't below n.
func holdsSplit(t *testing.T, n int) {
	t.Helper()
	got := Split(n)
	if got < 1 || got&(got-1) != 0 || got >= n || 2*uint64(got) < uint64(n) || got != splitByTheWords(n) {
		t.Fatalf("Split(%d) = %d", n, got)
	}
}

func TestDepth(t *testing.T) {
	for n, want := range []int{0, 0, 1, 2, 2, 3, 3, 3, 3, 4} {
		if got := Depth(n); got != want {
			t.Fatalf("Depth(%d) = %d, not %d", n, got, want)
		}
	}
	for _, n := range least() {
		if got := Depth(n); got != 0 {
			t.Fatalf("Depth(%d) = %d", n, got)
		}
	}
	for n := 2; n < 5000; n++ {
		holdsDepth(t, n)
	}
	for _, n := range most() {
		holdsDepth(t, n)
	}
}

// holdsDepth holds a depth against the document's words.
func holdsDepth(t *testing.T, n int) {
	t.Helper()
	if got, want := Depth(n), depthByTheWords(map[int]int{}, n); got != want {
		t.Fatalf("Depth(%d) = %d, not %d", n, got, want)
	}
}
