package growth

import (
	"math/bits"
	"slices"

	"bailee/api"
	"bailee/sha"
	"bailee/tree"
)

// Frontier is what a tree grows by. Its zero value is the frontier of no leaves, too.
type Frontier struct {
	size  int
	peaks []sha.Digest // the greatest tree's first: one for each bit 1 of the size
}

// New is the frontier of no leaves.
func New() *Frontier { return &Frontier{} }

// Of is a frontier of peaks.
func Of(n int, peaks []sha.Digest) (*Frontier, error) {
	if n < 0 || n > api.MaxTick {
		return nil, api.ErrRange
	}
	if len(peaks) != bits.OnesCount(uint(n)) {
		return nil, api.ErrSize
	}
	return &Frontier{size: n, peaks: slices.Clone(peaks)}, nil
}

// Add adds a leaf.
func (f *Frontier) Add(leaf []byte) error {
	if f.size >= api.MaxTick {
		return api.ErrFull
	}
	rest, d := f.peaks, tree.Leaf(leaf)
	// Each bit 1 at the end of the size is a whole tree as great as the one that came: both are one, twice as great.
	for left := f.size; left%2 == 1; left /= 2 {
		last := len(rest) - 1
		d = tree.Node(rest[last], d)
		rest = rest[:last]
	}
	// In new room: a frontier that this one was copied to has the old one still.
	f.peaks = append(slices.Clip(rest), d)
	f.size++
	return nil
}

// Root is the root of all.
func (f *Frontier) Root() sha.Digest {
	if len(f.peaks) == 0 {
		return tree.Over(nil)
	}
	last := len(f.peaks) - 1
	root := f.peaks[last]
	// Of the trees from one on, that one has as many leaves as their split: it stands left of all behind it.
	for _, d := range slices.Backward(f.peaks[:last]) {
		root = tree.Node(d, root)
	}
	return root
}

// Size is how many leaves there are.
func (f *Frontier) Size() int { return f.size }

// Peaks is the roots that it has.
func (f *Frontier) Peaks() []sha.Digest { return slices.Clone(f.peaks) }
