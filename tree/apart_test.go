package tree

import (
	"bytes"
	"slices"
	"testing"

	"bailee/sha"
)

// madeOf notes the byte strings that a root is made of, each by its digest, and answers the root: by the exported calls alone.
func madeOf(made map[sha.Digest][]byte, leaves [][]byte) sha.Digest {
	if len(leaves) == 1 {
		made[Leaf(leaves[0])] = Outer(leaves[0])
		return Leaf(leaves[0])
	}
	k := Split(len(leaves))
	left, right := madeOf(made, leaves[:k]), madeOf(made, leaves[k:])
	made[Node(left, right)] = Inner(left, right)
	return Node(left, right)
}

// under are the leaves that stand under a digest, read out of the byte strings.
func under(t *testing.T, made map[sha.Digest][]byte, d sha.Digest) [][]byte {
	t.Helper()
	b, ok := made[d]
	if !ok || sha.Of(b) != d {
		t.Fatalf("%s is of none of the byte strings", sha.Hex(d))
	}
	switch {
	case b[0] == 0:
		return [][]byte{b[1:]}
	case b[0] == 1 && len(b) == 65:
		return append(under(t, made, sha.Digest(b[1:33])), under(t, made, sha.Digest(b[33:]))...)
	}
	t.Fatalf("%x is neither a leaf's nor a node's", b)
	return nil
}

func TestLeavesAreReadOutOfWhatTheirRootIsMadeOf(t *testing.T) {
	// So no root is that of other leaves, unless two byte strings have one digest.
	for n := 1; n <= 70; n++ {
		for _, leaves := range [][][]byte{sample(n, 1), alike(n, nil), alike(n, Inner(sha.Of(), sha.Of())), alike(n, Outer(nil))} {
			made := map[sha.Digest][]byte{}
			top := madeOf(made, leaves)
			if top != Root(leaves) || top != Over(Leaves(leaves)) {
				t.Fatalf("of %d leaves: the root isn't made of its byte strings", n)
			}
			if got := under(t, made, top); !slices.EqualFunc(got, leaves, bytes.Equal) {
				t.Fatalf("of %d leaves: %x were read, not %x", n, got, leaves)
			}
		}
	}
}

// apart holds that roots are apart: of one number of leaves, no two with the same leaves.
type apart map[sha.Digest][][]byte

// put puts leaves.
func (a apart) put(t *testing.T, leaves [][]byte) {
	t.Helper()
	root := Root(leaves)
	was, ok := a[root]
	if ok && !slices.EqualFunc(was, leaves, bytes.Equal) {
		t.Fatalf("%x and %x have one root, %s", was, leaves, sha.Hex(root))
	}
	if root != Over(Leaves(leaves)) {
		t.Fatalf("of %x: the root over the digests is another one", leaves)
	}
	a[root] = leaves
}

// with is a list with another leaf at a place.
func with(leaves [][]byte, i int, b []byte) [][]byte {
	list := slices.Clone(leaves)
	list[i] = b
	return list
}

// swapped is a list with two leaves swapped.
func swapped(leaves [][]byte, i, j int) [][]byte {
	return with(with(leaves, i, leaves[j]), j, leaves[i])
}

func TestOtherLeavesHaveAnotherRoot(t *testing.T) {
	for n := 1; n <= 20; n++ {
		leaves, a := sample(n, 1), apart{}
		a.put(t, leaves)
		for i, b := range leaves {
			for bit := range 8 * len(b) {
				other := slices.Clone(b)
				other[bit/8] ^= 1 << (bit % 8)
				a.put(t, with(leaves, i, other))
			}
			for _, other := range [][]byte{nil, {0}, {1}, append(slices.Clone(b), 0), append([]byte{0}, b...), append([]byte{1}, b...), b[len(b)/2:]} {
				a.put(t, with(leaves, i, other))
			}
			for j := range i {
				a.put(t, swapped(leaves, i, j))
				a.put(t, with(leaves, i, leaves[j]))
			}
		}
		a.put(t, slices.Concat(leaves[1:], leaves[:1]))
		a.put(t, slices.Concat(leaves[n-1:], leaves[:n-1]))
	}
}

func TestBytesThatMoveToTheNextLeaf(t *testing.T) {
	// The bytes of all leaves, one behind the other, are the same: where they are parted counts.
	all := message(6, 1)
	for _, list := range [][]byte{all, make([]byte, 6), bytes.Repeat([]byte{1}, 6)} {
		a := apart{}
		for i := range 7 {
			for j := i; j <= 6; j++ {
				a.put(t, [][]byte{list[:i], list[i:j], list[j:]})
			}
		}
		if want := 28; len(a) != want {
			t.Fatalf("%d roots, not %d", len(a), want)
		}
	}
}

func TestAllShortLeaves(t *testing.T) {
	short := [][]byte{nil, {0}, {1}, {0, 0}, {0, 1}, {1, 0}}
	lists := [][][]byte{nil}
	for n := 1; n <= 4; n++ {
		var longer [][][]byte
		a := apart{}
		for _, list := range lists {
			for _, b := range short {
				longer = append(longer, append(slices.Clone(list), b))
				a.put(t, longer[len(longer)-1])
			}
		}
		lists = longer
		if len(a) != len(lists) {
			t.Fatalf("of %d leaves: %d lists have %d roots", n, len(lists), len(a))
		}
	}
}

func TestOtherDigestsHaveAnotherRoot(t *testing.T) {
	for n := 1; n <= 20; n++ {
		list := Leaves(sample(n, 2))
		seen := map[sha.Digest]bool{Over(list): true}
		for i := range list {
			for _, bit := range []int{0, 1, 7, 8, 100, 128, 247, 248, 255} {
				other := slices.Clone(list)
				other[i][bit/8] ^= 1 << (bit % 8)
				root := Over(other)
				if root != overByTheWords(other) || seen[root] {
					t.Fatalf("over %d digests, bit %d of number %d changed: %s", n, bit, i, sha.Hex(root))
				}
				seen[root] = true
			}
		}
	}
}

func TestALeafIsNoNode(t *testing.T) {
	for n := 2; n <= 20; n++ {
		leaves := sample(n, 1)
		root, list := Root(leaves), Leaves(leaves)
		k := Split(n)
		inner := Inner(Over(list[:k]), Over(list[k:]))
		for _, b := range [][]byte{inner, inner[1:], Outer(inner), Outer(inner[1:]), root[:]} {
			if Leaf(b) == root || Root([][]byte{b}) == root {
				t.Fatalf("a leaf %x has the root of %d leaves", b, n)
			}
		}
	}
}
