package path

import (
	"bytes"
	"errors"
	"slices"
	"testing"

	"bailee/api"
	"bailee/sha"
	"bailee/tree"
)

// holdsPath holds a leaf's path, and that it holds, against the document's words.
func holdsPath(t *testing.T, leaves [][]byte, i int, root sha.Digest) {
	t.Helper()
	n, want := len(leaves), pathByTheWords(leaves, i)
	for range 2 {
		got, err := Make(leaves, i)
		if err != nil || !slices.Equal(got, want) || len(got) != Length(n, i) {
			t.Fatalf("the path of leaf %d of %d: %v, %v, not %v", i, n, got, err, want)
		}
		if top, err := Fold(n, i, leaves[i], got); err != nil || top != root {
			t.Fatalf("the path of leaf %d of %d makes %s, %v", i, n, sha.Hex(top), err)
		}
		if err := Check(root, n, i, leaves[i], got); err != nil {
			t.Fatalf("the path of leaf %d of %d doesn't hold: %v", i, n, err)
		}
	}
}

func TestPathsByTheDocumentsWords(t *testing.T) {
	for _, n := range counts() {
		for _, leaves := range [][][]byte{sample(n, 1), slices.Repeat([][]byte{[]byte("the same")}, n), make([][]byte, n)} {
			root := rootByTheWords(leaves)
			if root != tree.Root(leaves) {
				t.Fatalf("of %d leaves: layer 12 has another root", n)
			}
			for _, i := range places(n) {
				holdsPath(t, leaves, i, root)
			}
		}
	}
}

// plain are digests as their figures.
func plain(path []sha.Digest) []string {
	var list []string
	for _, d := range path {
		list = append(list, sha.Hex(d))
	}
	return list
}

func TestKnownPaths(t *testing.T) {
	for _, row := range knownPaths() {
		n := len(row.leaves)
		path, err := Make(row.leaves, row.i)
		if err != nil || !slices.Equal(plain(path), row.want) {
			t.Fatalf("the path of leaf %d of %d: %v, %v, not %v", row.i, n, plain(path), err, row.want)
		}
		if root, err := Fold(n, row.i, row.leaves[row.i], path); err != nil || sha.Hex(root) != row.root {
			t.Fatalf("the path of leaf %d of %d makes %s, %v, not %s", row.i, n, sha.Hex(root), err, row.root)
		}
	}
	for _, row := range longPaths() {
		path, err := Make(counted(row.n), row.i)
		if got := sha.Hex(sha.Of(Bytes(path))); err != nil || len(path) != row.length || got != row.want {
			t.Fatalf("the path of leaf %d of %d: %d digests, %s, %v", row.i, row.n, len(path), got, err)
		}
	}
}

func TestTheOnlyLeafHasNoDigests(t *testing.T) {
	for _, leaf := range [][]byte{nil, {}, {0}, {1}, message(65, 1), message(100000, 1)} {
		path, err := Make([][]byte{leaf}, 0)
		if err != nil || len(path) != 0 || Length(1, 0) != 0 {
			t.Fatalf("the path of leaf 0 of 1: %v, %v", path, err)
		}
		for _, none := range [][]sha.Digest{nil, {}, path} {
			if root, err := Fold(1, 0, leaf, none); err != nil || root != leafByTheWords(leaf) {
				t.Fatalf("the only leaf %x has the root %s, %v", leaf, sha.Hex(root), err)
			}
			if err := Check(leafByTheWords(leaf), 1, 0, leaf, none); err != nil {
				t.Fatalf("the path of the only leaf %x doesn't hold: %v", leaf, err)
			}
		}
	}
}

func TestLength(t *testing.T) {
	for n := 1; n <= 512; n++ {
		for i := range n {
			if got, want := Length(n, i), lengthByTheWords(n, i); got != want {
				t.Fatalf("Length(%d, %d) = %d, not %d", n, i, got, want)
			}
		}
		for _, i := range append(beyond(), n, n+1) {
			if got := Length(n, i); got != -1 {
				t.Fatalf("Length(%d, %d) = %d", n, i, got)
			}
		}
	}
	for _, n := range []int{0, -1, -2, -512, -513, 513, 514, 1000, 1024, 1 << 20, 1 << 32, 1<<32 + 5, 1<<63 - 1, -1 << 32, 5 - 1<<32, 1 - 1<<63, -1 << 63} {
		for _, i := range append(beyond(), 0, 1, 2, 4, 511, n, n-1, n/2) {
			if got := Length(n, i); got != -1 {
				t.Fatalf("Length(%d, %d) = %d", n, i, got)
			}
		}
	}
}

func TestNoSuchLeaf(t *testing.T) {
	for _, n := range append(counts(), 0) {
		leaves := sample(n, 1)
		for _, i := range append(beyond(), n, n+1) {
			holdsNoPath(t, leaves, i)
		}
	}
}

func TestTooManyLeaves(t *testing.T) {
	for _, n := range []int{513, 514, 1023, 1024, 1025, 70000} {
		for _, i := range append(beyond(), 0, 1, 511, n-1, n) {
			holdsNoPath(t, make([][]byte, n), i)
		}
	}
	leaves := sample(513, 1)
	holdsNoPath(t, leaves, 0)
	if path, err := Make(leaves[:512], 511); err != nil || len(path) != 9 {
		t.Fatalf("the path of the last one of 512 leaves: %d digests, %v", len(path), err)
	}
}

// holdsNoPath holds that there is no path of leaf i, whatever is handed in with it.
func holdsNoPath(t *testing.T, leaves [][]byte, i int) {
	t.Helper()
	n := len(leaves)
	if path, err := Make(leaves, i); path != nil || !errors.Is(err, api.ErrRange) {
		t.Fatalf("the path of leaf %d of %d: %v, %v", i, n, path, err)
	}
	if got := Length(n, i); got != -1 {
		t.Fatalf("Length(%d, %d) = %d", n, i, got)
	}
	for _, size := range []int{0, 1, 3, 9, 10, 11} {
		path := some(size, 1)
		if root, err := Fold(n, i, nil, path); root != (sha.Digest{}) || !errors.Is(err, api.ErrRange) {
			t.Fatalf("a path of leaf %d of %d makes %s, %v", i, n, sha.Hex(root), err)
		}
		for _, root := range []sha.Digest{{}, sha.Of(), tree.Leaf(nil)} {
			if err := Check(root, n, i, nil, path); !errors.Is(err, api.ErrRange) {
				t.Fatalf("a path of leaf %d of %d: %v", i, n, err)
			}
		}
		for _, leaf := range [][]byte{nil, {1}, message(70, 1)} {
			holdsNoClash(t, leaves, i, leaf, path)
		}
	}
}

func TestBytesAndBack(t *testing.T) {
	for n := range 40 {
		path := some(n, 1)
		var want []byte
		for _, d := range path {
			want = append(want, d[:]...)
		}
		b := Bytes(path)
		if !bytes.Equal(b, want) {
			t.Fatalf("of %d digests: %x, not %x", n, b, want)
		}
		got, err := Parse(b)
		if n <= 10 && (err != nil || !slices.Equal(got, path)) {
			t.Fatalf("of the bytes of %d digests: %v, %v", n, got, err)
		}
		if n > 10 && (got != nil || !errors.Is(err, api.ErrLong)) {
			t.Fatalf("of the bytes of %d digests: %v, %v", n, got, err)
		}
	}
	if len(Bytes(nil)) != 0 || len(Bytes([]sha.Digest{})) != 0 {
		t.Fatal("no digests have no bytes")
	}
	if b := Bytes(make([]sha.Digest, 5000)); len(b) != 160000 {
		t.Fatalf("5000 digests have %d bytes", len(b))
	}
}

func TestParse(t *testing.T) {
	for size := range 1500 {
		b := message(size, 1)
		want := error(nil)
		switch {
		case size%32 != 0:
			want = api.ErrSize
		case size > 320:
			want = api.ErrLong
		}
		path, err := Parse(b)
		if want != nil {
			if path != nil || !errors.Is(err, want) {
				t.Fatalf("Parse of %d bytes: %v, %v", size, path, err)
			}
			continue
		}
		if err != nil || len(path) != size/32 || !bytes.Equal(Bytes(path), b) {
			t.Fatalf("Parse of %d bytes: %v, %v", size, path, err)
		}
	}
	for _, none := range [][]byte{nil, {}} {
		if path, err := Parse(none); err != nil || len(path) != 0 {
			t.Fatalf("Parse of no bytes: %v, %v", path, err)
		}
	}
}

func TestOwnPathsAreParsed(t *testing.T) {
	for _, n := range counts() {
		leaves := sample(n, 3)
		root := tree.Root(leaves)
		for _, i := range places(n) {
			path, err := Make(leaves, i)
			if err != nil {
				t.Fatal(err)
			}
			back, err := Parse(Bytes(path))
			if err != nil || Check(root, n, i, leaves[i], back) != nil {
				t.Fatalf("the path of leaf %d of %d as bytes, and back: %v, %v", i, n, back, err)
			}
		}
	}
}
