package growth

import (
	"bytes"
	"math/bits"
	"slices"
	"testing"

	"bailee/sha"
	"bailee/tree"
)

// roomy are digests with more behind them, all of it told.
func roomy(list []sha.Digest) []sha.Digest { return slices.Concat(list, some(50, 9)) }

// spoil writes over digests, and the room behind them.
func spoil(list []sha.Digest) {
	for i := range list[:cap(list)] {
		list[:cap(list)][i] = other(list[:cap(list)][i], 77)
	}
}

func TestNoListGivenIsChanged(t *testing.T) {
	for n := 1; n <= 40; n++ {
		list := some(n, 1)
		whole := roomy(list)
		for m := 1; m <= n; m++ {
			proof := proofByTheWords(list, m, true)
			given := roomy(proof)
			Prove(whole[:n], m)
			Check(m, overByTheWords(list[:m]), n, overByTheWords(list), given[:len(proof)])
			Check(m, sha.Digest{}, n, overByTheWords(list), given[:len(proof)])
			if !slices.Equal(given, roomy(proof)) {
				t.Fatalf("the proof of %d among %d, or the room behind it, was changed", m, n)
			}
		}
		if !slices.Equal(whole, roomy(list)) {
			t.Fatalf("%d digests, or the room behind them, were changed", n)
		}
	}
}

func TestNoPeaksGivenAreChanged(t *testing.T) {
	for _, n := range great() {
		peaks := some(bits.OnesCount(uint(n)), 1)
		whole := roomy(peaks)
		f, err := Of(n, whole[:len(peaks)])
		if err != nil {
			t.Fatal(err)
		}
		for range 5 {
			f.Root()
			f.Peaks()
			f.Add([]byte("one more"))
		}
		if !slices.Equal(whole, roomy(peaks)) {
			t.Fatalf("the peaks of %d leaves, or the room behind them, were changed", n)
		}
	}
}

func TestNoLeafGivenIsChanged(t *testing.T) {
	f := New()
	for size := range 140 {
		whole := slices.Concat(message(size, 1), bytes.Repeat([]byte{123}, 100))
		if err := f.Add(whole[:size]); err != nil {
			t.Fatal(err)
		}
		if !bytes.Equal(whole, slices.Concat(message(size, 1), bytes.Repeat([]byte{123}, 100))) {
			t.Fatalf("a leaf of %d bytes, or the room behind it, was changed", size)
		}
	}
}

func TestWhatIsGivenIsNotKept(t *testing.T) {
	for n := range 70 {
		leaves := sample(n, 1)
		f := grown(t, leaves)
		list := leavesByTheWords(leaves)
		for _, b := range leaves {
			for i := range b {
				b[i] ^= 255
			}
		}
		peaks := peaksByTheWords(list)
		holdsFrontier(t, f, n, peaks, overByTheWords(list))
		given := roomy(peaks)
		of, err := Of(n, given[:len(peaks)])
		if err != nil {
			t.Fatal(err)
		}
		spoil(given)
		holdsFrontier(t, of, n, peaks, overByTheWords(list))
		for m := 1; m <= n; m++ {
			given := slices.Clone(list)
			proof, err := Prove(given, m)
			spoil(given)
			if err != nil || !slices.Equal(proof, proofByTheWords(list, m, true)) {
				t.Fatalf("writing over %d digests that were given changed a proof of %d", n, m)
			}
		}
	}
}

func TestAnswersAreTheCallersAlone(t *testing.T) {
	for n := range 70 {
		leaves := sample(n, 1)
		list := leavesByTheWords(leaves)
		f, peaks := grown(t, leaves), peaksByTheWords(list)
		first, second := f.Peaks(), f.Peaks()
		spoil(first)
		if !slices.Equal(second, peaks) {
			t.Fatalf("writing over the peaks of %d leaves changed others", n)
		}
		holdsFrontier(t, f, n, peaks, overByTheWords(list))
		for m := 1; m <= n; m++ {
			first, _ := Prove(list, m)
			second, _ := Prove(list, m)
			spoil(first)
			if !slices.Equal(second, proofByTheWords(list, m, true)) || !slices.Equal(list, leavesByTheWords(leaves)) {
				t.Fatalf("writing over the proof of %d among %d changed others", m, n)
			}
		}
	}
}

func TestPeaksStayWhenOneIsAdded(t *testing.T) {
	f := New()
	list := leavesByTheWords(sample(70, 1))
	for n, b := range sample(70, 1) {
		got := f.Peaks()
		if err := f.Add(b); err != nil {
			t.Fatal(err)
		}
		if !slices.Equal(got, peaksByTheWords(list[:n])) {
			t.Fatalf("the peaks of %d leaves were changed by one more", n)
		}
		spoil(got)
		holdsFrontier(t, f, n+1, peaksByTheWords(list[:n+1]), overByTheWords(list[:n+1]))
	}
}

func TestFrontiersAreApart(t *testing.T) {
	// Two of the same peaks, and one that was copied as it is, go on each for itself.
	for n := range 70 {
		leaves := sample(n, 1)
		f := grown(t, leaves)
		again, err := Of(n, f.Peaks())
		if err != nil {
			t.Fatal(err)
		}
		copied := *f
		all := []*Frontier{f, again, &copied, New()}
		own := [][][]byte{slices.Clone(leaves), slices.Clone(leaves), slices.Clone(leaves), nil}
		for round := range 5 {
			for i, g := range all {
				leaf := message(10, 100*round+i)
				if err := g.Add(leaf); err != nil {
					t.Fatal(err)
				}
				own[i] = append(own[i], leaf)
			}
			for i, g := range all {
				holdsFrontier(t, g, len(own[i]), peaksByTheWords(leavesByTheWords(own[i])), tree.Root(own[i]))
			}
		}
	}
}

func TestProofsKeepNothing(t *testing.T) {
	// The same call has the same answer, whatever was asked between.
	list, proof := some(7, 1), proofByTheWords(some(7, 1), 3, true)
	old, now := overByTheWords(list[:3]), overByTheWords(list)
	for n := 1; n <= 20; n++ {
		Prove(some(n, 2), 1+n/2)
		Check(1+n/2, sha.Digest{}, n, sha.Digest{}, some(4, 2))
		Count(n, 2*n)
		got, err := Prove(list, 3)
		if err != nil || !slices.Equal(got, proof) || Check(3, old, 7, now, got) != nil || Count(3, 7) != 4 {
			t.Fatalf("behind other calls: %v, %v", plain(got), err)
		}
	}
}
