package tree

import (
	"iter"
	"slices"

	"bailee/sha"
)

// digests goes over leaves' digests, each made when it is asked for: a root needs no list of them.
func digests(leaves [][]byte) iter.Seq[sha.Digest] {
	return func(yield func(sha.Digest) bool) {
		for _, b := range leaves {
			if !yield(Leaf(b)) {
				return
			}
		}
	}
}

// rootOf is the root of leaves whose digests come one by one.
func rootOf(all iter.Seq[sha.Digest]) sha.Digest {
	var whole []sha.Digest // the roots of whole trees, the greatest first, no two of them as great
	count := 0
	for d := range all {
		// Each bit 1 at the end of the count is a whole tree as great as the one that came: both are one, twice as great.
		for left := count; left%2 == 1; left /= 2 {
			last := len(whole) - 1
			d = Node(whole[last], d)
			whole = whole[:last]
		}
		whole = append(whole, d)
		count++
	}
	return joined(whole)
}

// joined is the root above whole trees, the greatest first: the first one of those that are left has as many leaves as the split of their number.
func joined(whole []sha.Digest) sha.Digest {
	if len(whole) == 0 {
		return sha.Of()
	}
	last := len(whole) - 1
	root := whole[last]
	for _, left := range slices.Backward(whole[:last]) {
		root = Node(left, root)
	}
	return root
}
