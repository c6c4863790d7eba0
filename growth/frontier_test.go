package growth

import (
	"crypto/sha256"
	"errors"
	"math/bits"
	"slices"
	"testing"

	"bailee/api"
	"bailee/sha"
	"bailee/tree"
)

// grown is a frontier to which leaves were added.
func grown(t *testing.T, leaves [][]byte) *Frontier {
	t.Helper()
	f := New()
	for i, b := range leaves {
		if err := f.Add(b); err != nil {
			t.Fatalf("leaf %d: %v", i, err)
		}
	}
	return f
}

// holdsFrontier holds what a frontier answers, as often as it is asked.
func holdsFrontier(t *testing.T, f *Frontier, size int, peaks []sha.Digest, root sha.Digest) {
	t.Helper()
	for range 2 {
		if got := f.Size(); got != size {
			t.Fatalf("%d leaves, not %d", got, size)
		}
		if got := f.Peaks(); !slices.Equal(got, peaks) {
			t.Fatalf("of %d leaves: the peaks %v, not %v", size, plain(got), plain(peaks))
		}
		if got := f.Root(); got != root {
			t.Fatalf("of %d leaves: the root %s, not %s", size, sha.Hex(got), sha.Hex(root))
		}
	}
}

func TestNoLeaves(t *testing.T) {
	ofNil, err := Of(0, nil)
	if err != nil {
		t.Fatal(err)
	}
	ofNone, err := Of(0, []sha.Digest{})
	if err != nil {
		t.Fatal(err)
	}
	for _, f := range []*Frontier{New(), ofNil, ofNone, {}} {
		holdsFrontier(t, f, 0, nil, sha256.Sum256(nil))
		if err := f.Add([]byte("leaf")); err != nil {
			t.Fatal(err)
		}
		d := leafByTheWords([]byte("leaf"))
		holdsFrontier(t, f, 1, []sha.Digest{d}, d)
	}
}

func TestOneLeaf(t *testing.T) {
	for _, b := range [][]byte{nil, {}, {0}, {1}, []byte("leaf"), message(65, 1), message(100000, 1), tree.Inner(sha.Digest{}, sha.Of())} {
		d := leafByTheWords(b)
		holdsFrontier(t, grown(t, [][]byte{b}), 1, []sha.Digest{d}, d)
	}
}

func TestFrontiersByTheDocumentsWords(t *testing.T) {
	const most = 300
	for _, leaves := range [][][]byte{sample(most, 1), slices.Repeat([][]byte{[]byte("the same")}, most), make([][]byte, most)} {
		f, list := New(), leavesByTheWords(leaves)
		for n := range most {
			peaks, root := peaksByTheWords(list[:n]), overByTheWords(list[:n])
			if len(peaks) != bits.OnesCount(uint(n)) || rootByTheWords(peaks) != root || tree.Root(leaves[:n]) != root {
				t.Fatalf("of %d leaves: the words don't agree", n)
			}
			holdsFrontier(t, f, n, peaks, root)
			again, err := Of(n, f.Peaks())
			if err != nil {
				t.Fatalf("Of(%d): %v", n, err)
			}
			holdsFrontier(t, again, n, peaks, root)
			if err := f.Add(leaves[n]); err != nil {
				t.Fatalf("leaf %d: %v", n, err)
			}
			holdsFrontier(t, again, n, peaks, root)
		}
	}
}

func TestGreaterFrontiersByTheDocumentsWords(t *testing.T) {
	leaves := sample(5000, 2)
	list := leavesByTheWords(leaves)
	f := New()
	for n, b := range leaves {
		if n%611 == 0 || n&(n-1) == 0 || n&(n+1) == 0 {
			holdsFrontier(t, f, n, peaksByTheWords(list[:n]), overByTheWords(list[:n]))
		}
		if err := f.Add(b); err != nil {
			t.Fatal(err)
		}
	}
	holdsFrontier(t, f, len(leaves), peaksByTheWords(list), overByTheWords(list))
}

func TestGoingOnFromPeaks(t *testing.T) {
	// A frontier that was made of peaks goes on as the one that they are of does.
	leaves := sample(150, 3)
	list := leavesByTheWords(leaves)
	for from := range 130 {
		f, err := Of(from, peaksByTheWords(list[:from]))
		if err != nil {
			t.Fatal(err)
		}
		for n := from; n < from+20; n++ {
			if err := f.Add(leaves[n]); err != nil {
				t.Fatal(err)
			}
			holdsFrontier(t, f, n+1, peaksByTheWords(list[:n+1]), overByTheWords(list[:n+1]))
		}
	}
}

// noFrontiers are numbers of leaves that no frontier has.
func noFrontiers() []int {
	return []int{-1, -2, -3, -1 << 40, 1<<40 + 1, 1<<40 + 2, 1 << 41, 1<<41 - 1, 1 << 62, 1<<63 - 1, -1 << 62, 1 - 1<<63, -1 << 63}
}

// great are numbers of leaves that a frontier may have: those around each power of two, and others.
func great() []int {
	list := []int{0, 1, 1000000007, 0xABCDEF0123, 0x5555555555, 0xAAAAAAAAAA, 1<<40 - 2, 1<<40 - 1, 1 << 40}
	for bit := 1; bit < 40; bit++ {
		list = append(list, 1<<bit-1, 1<<bit, 1<<bit+1, 1<<bit+1<<(bit-1), 1<<40-1<<bit, 1<<40-1<<bit-1)
	}
	return list
}

func TestNoSuchNumberOfLeaves(t *testing.T) {
	for _, n := range noFrontiers() {
		for _, count := range []int{0, 1, 2, 40, 41, 63, 64, 100, bits.OnesCount(uint(n))} {
			if f, err := Of(n, some(count, 1)); f != nil || !errors.Is(err, api.ErrRange) {
				t.Fatalf("Of(%d) of %d peaks: %v, %v", n, count, f, err)
			}
		}
	}
}

func TestOtherNumbersOfPeaks(t *testing.T) {
	for _, n := range great() {
		right := bits.OnesCount(uint(n))
		for _, count := range []int{0, 1, right - 1, right + 1, right + 2, 2 * right, 40, 41, 1000} {
			if count < 0 || count == right {
				continue
			}
			if f, err := Of(n, some(count, 1)); f != nil || !errors.Is(err, api.ErrSize) {
				t.Fatalf("Of(%d) of %d peaks: %v, %v", n, count, f, err)
			}
		}
	}
}

// addedByTheWords are the roots of the frontier of n leaves and one more: each whole tree as great as the one that comes is one with it.
func addedByTheWords(n int, peaks []sha.Digest, leaf []byte) []sha.Digest {
	all, great := slices.Clone(peaks), 1
	d := leafByTheWords(leaf)
	for n&great != 0 {
		d = nodeByTheWords(all[len(all)-1], d)
		all, great = all[:len(all)-1], great*2
	}
	return append(all, d)
}

func TestGreatFrontiersOfUnknownLeaves(t *testing.T) {
	for i, n := range great() {
		peaks := some(bits.OnesCount(uint(n)), i)
		f, err := Of(n, peaks)
		if err != nil {
			t.Fatalf("Of(%d): %v", n, err)
		}
		holdsFrontier(t, f, n, peaks, rootByTheWords(peaks))
		for at := n; at < n+5 && at < 1<<40; at++ {
			leaf := message(i%50, at%1000)
			if err := f.Add(leaf); err != nil {
				t.Fatalf("one more than %d: %v", at, err)
			}
			peaks = addedByTheWords(at, peaks, leaf)
			holdsFrontier(t, f, at+1, peaks, rootByTheWords(peaks))
		}
	}
}

// wholeAlike are the roots of whole trees of leaves that are all the same: that of 2 to the power h leaves at h.
func wholeAlike(leaf []byte) []sha.Digest {
	list := []sha.Digest{leafByTheWords(leaf)}
	for h := range 41 {
		list = append(list, nodeByTheWords(list[h], list[h]))
	}
	return list
}

// peaksAlike are the roots of the frontier of n leaves that are all the same.
func peaksAlike(n int, whole []sha.Digest) []sha.Digest {
	var peaks []sha.Digest
	for h := 40; h >= 0; h-- {
		if n&(1<<h) != 0 {
			peaks = append(peaks, whole[h])
		}
	}
	return peaks
}

// rootAlike is the root of n leaves that are all the same, as the document words it. What was worked out stays in a map: both sides of a split are often alike.
func rootAlike(known map[int]sha.Digest, n int, leaf []byte) sha.Digest {
	if n == 1 {
		return leafByTheWords(leaf)
	}
	if _, ok := known[n]; !ok {
		k := splitByTheWords(n)
		known[n] = nodeByTheWords(rootAlike(known, k, leaf), rootAlike(known, n-k, leaf))
	}
	return known[n]
}

func TestGreatFrontiersOfLeavesThatAreTheSame(t *testing.T) {
	leaf := []byte("alike")
	whole, known := wholeAlike(leaf), map[int]sha.Digest{}
	for _, n := range great() {
		f, err := Of(n, peaksAlike(n, whole))
		if err != nil {
			t.Fatalf("Of(%d): %v", n, err)
		}
		for at := n + 1; at <= n+5 && at <= 1<<40; at++ {
			if err := f.Add(leaf); err != nil {
				t.Fatalf("one more than %d: %v", at-1, err)
			}
			holdsFrontier(t, f, at, peaksAlike(at, whole), rootAlike(known, at, leaf))
		}
	}
}

func TestKnownGreatRoots(t *testing.T) {
	// Of leaves that are all the same, worked out elsewhere.
	whole := wholeAlike([]byte("alike"))
	for _, row := range []struct {
		n    int
		want string
	}{
		{1000000007, "e009843d78493fc2776c1b47265a5cf925ec9a53ec86b66053cb0d7651edc4f0"},
		{1<<32 - 1, "4d6d38da66d825a8752d2f229daebbb0062deb3ebbf942ad7ec31ce02a2c92ae"},
		{1 << 32, "614c616211b2dd4fb23b22cf8edda7ec36b358ce8f1a921a69c09c06008f6e88"},
		{1<<32 + 1, "0936de51e9a0772e803824850105a6369647d9a7a04f71ef69e6034807394d45"},
		{0xABCDEF0123, "9a737bdfae8a1326fb097c6733f223e4a37573cf8b89d5a55fdecc2f1a6e5f45"},
		{1<<40 - 1, "ed097f969959a48a5e3e422989897be9c9cef7eed60e70f23a9877e5660ef096"},
		{1 << 40, "331ccc48ed58d60b0a7147e30fd526bd493b9536a732f77c530b666546fbe40f"},
	} {
		f, err := Of(row.n, peaksAlike(row.n, whole))
		if err != nil || sha.Hex(f.Root()) != row.want {
			t.Fatalf("of %d leaves: %v", row.n, err)
		}
	}
}

func TestNoMoreRoom(t *testing.T) {
	peaks := some(40, 1)
	f, err := Of(1<<40-1, peaks)
	if err != nil {
		t.Fatal(err)
	}
	if err := f.Add([]byte("last")); err != nil {
		t.Fatalf("the last one that may be: %v", err)
	}
	last := addedByTheWords(1<<40-1, peaks, []byte("last"))
	full, err := Of(1<<40, some(1, 2))
	if err != nil || len(last) != 1 {
		t.Fatalf("%d peaks, %v", len(last), err)
	}
	for range 3 {
		for _, leaf := range [][]byte{nil, {1}, message(70, 1)} {
			if err := f.Add(leaf); !errors.Is(err, api.ErrFull) {
				t.Fatalf("one more than may be: %v", err)
			}
			holdsFrontier(t, f, 1<<40, last, last[0])
			if err := full.Add(leaf); !errors.Is(err, api.ErrFull) {
				t.Fatalf("one more than may be: %v", err)
			}
			holdsFrontier(t, full, 1<<40, some(1, 2), some(1, 2)[0])
		}
	}
}
