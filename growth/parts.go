package growth

import (
	"iter"

	"bailee/sha"
	"bailee/tree"
)

// side is where leaves stand to what a proof makes of the digests ahead of theirs.
type side int

const (
	own   side = iota // nothing is made ahead of them: both roots begin with theirs
	left              // they are under both roots
	right             // they aren't among the first ones
)

// part is the leaves whose root is one digest of a proof.
type part struct {
	from, to int // the first one, and the one behind them
	side     side
}

// parts goes over the leaves whose roots are the proof of m leaves among n, in its order.
func parts(m, n int) iter.Seq[part] {
	return func(yield func(part) bool) { climb(0, n, m, yield) }
}

// climb goes over the parts of the leaves from the one up to the other, without that, if the first ones end ahead of leaf m. It tells whether more are asked for.
func climb(from, to, m int, yield func(part) bool) bool {
	if m == to {
		// Who checks all leaves from the beginning has their root already.
		return from == 0 || yield(part{from, to, own})
	}
	split := from + tree.Split(to-from)
	if m <= split {
		return climb(from, split, m, yield) && yield(part{split, to, right})
	}
	return climb(split, to, m, yield) && yield(part{from, split, left})
}

// made is both roots that a proof makes: that of the first m leaves, and that of all n. The proof must have as many digests as there are parts.
func made(m, n int, old sha.Digest, proof []sha.Digest) (sha.Digest, sha.Digest) {
	first, all, rest := old, old, proof
	for p := range parts(m, n) {
		d := rest[0]
		rest = rest[1:]
		switch p.side {
		case own:
			first, all = d, d
		case left:
			first, all = tree.Node(d, first), tree.Node(d, all)
		case right:
			all = tree.Node(all, d)
		}
	}
	return first, all
}
