package path

import (
	"bytes"
	"iter"
	"slices"

	"bailee/sha"
)

// apart is what stands highest and isn't the same in what leaf i's own path, and another one of its length, of another leaf, are made of.
func apart(leaves [][]byte, i int, leaf []byte, path []sha.Digest) ([]byte, []byte, bool) {
	own, err := Make(leaves, i)
	if err != nil {
		return nil, nil, false
	}
	n := len(leaves)
	return highest(made(n, i, leaves[i], own), made(n, i, leaf, path))
}

// highest is the last one of the first row that isn't the same as what stands there in the second one, and that one. Both rows are as long.
func highest(first, second iter.Seq[[]byte]) ([]byte, []byte, bool) {
	// If the last ones have one digest, these have, too: nodes that are the same are of the same digests.
	ours, theirs := slices.Collect(first), slices.Collect(second)
	for j, b := range slices.Backward(ours) {
		if !bytes.Equal(b, theirs[j]) {
			return b, theirs[j], true
		}
	}
	return nil, nil, false
}
