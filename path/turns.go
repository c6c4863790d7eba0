package path

import (
	"iter"

	"bailee/sha"
	"bailee/tree"
)

// turn is a node above a leaf. The others are the leaves under that kid of it which isn't above the leaf.
type turn struct {
	from, to int  // the others: the first one, and the one behind them
	left     bool // whether they stand left
}

// turns goes over the nodes above leaf i of n, the deepest first: each has one digest of the path, in its order.
func turns(n, i int) iter.Seq[turn] {
	return func(yield func(turn) bool) { climb(0, n, i, yield) }
}

// climb goes over the nodes above leaf i in the tree of the leaves from the one up to the other, without that, the deepest first. It tells whether more are asked for.
func climb(from, to, i int, yield func(turn) bool) bool {
	if to-from < 2 {
		return true
	}
	split := from + tree.Split(to-from)
	if i < split {
		return climb(from, split, i, yield) && yield(turn{split, to, false})
	}
	return climb(split, to, i, yield) && yield(turn{from, split, true})
}

// made goes over the byte strings that a path makes of a leaf: the leaf's first, then each node's, the root's last. The path must be as long as that of i of n.
func made(n, i int, leaf []byte, path []sha.Digest) iter.Seq[[]byte] {
	return func(yield func([]byte) bool) {
		b, rest := tree.Outer(leaf), path
		for t := range turns(n, i) {
			if !yield(b) {
				return
			}
			b = t.inner(sha.Of(b), rest[0])
			rest = rest[1:]
		}
		yield(b)
	}
}

// inner is the node's bytes: own is the root on the leaf's side, other that of the others.
func (t turn) inner(own, other sha.Digest) []byte {
	if t.left {
		return tree.Inner(other, own)
	}
	return tree.Inner(own, other)
}
