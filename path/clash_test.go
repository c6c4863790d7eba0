package path

import (
	"bytes"
	"slices"
	"testing"

	"bailee/sha"
	"bailee/tree"
)

// holdsNoClash holds that no clash is told.
func holdsNoClash(t *testing.T, leaves [][]byte, i int, leaf []byte, path []sha.Digest) {
	t.Helper()
	if a, b, ok := Clash(leaves, i, leaf, path); ok || a != nil || b != nil {
		t.Fatalf("leaf %d of %d, %x: %x, %x, %t", i, len(leaves), leaf, a, b, ok)
	}
}

func TestTheirLeavesHaveNoClash(t *testing.T) {
	for _, n := range few() {
		for _, leaves := range [][][]byte{sample(n, 1), slices.Repeat([][]byte{[]byte("the same")}, n), make([][]byte, n)} {
			for _, i := range places(n) {
				path := pathByTheWords(leaves, i)
				holdsNoClash(t, leaves, i, leaves[i], path)
				holdsNoClash(t, leaves, i, bytes.Clone(leaves[i]), slices.Clone(path))
				holdsNoClash(t, leaves, i, leaves[i], some(len(path)+1, 2)[1:])
			}
		}
	}
}

func TestWhatDoesNotHoldIsNoClash(t *testing.T) {
	// Both rows of byte strings are apart here, but no two of them have one digest.
	for _, n := range few() {
		leaves := sample(n, 1)
		for _, i := range places(n) {
			own := pathByTheWords(leaves, i)
			for _, path := range [][]sha.Digest{own, make([]sha.Digest, len(own)), some(len(own), 4), nil, own[:len(own)/2]} {
				for _, leaf := range [][]byte{message(71, 1), message(72, 2), []byte("other")} {
					holdsNoClash(t, leaves, i, leaf, path)
				}
			}
		}
	}
}

// row goes over byte strings.
func row(list ...string) func(func([]byte) bool) {
	return func(yield func([]byte) bool) {
		for _, b := range list {
			if !yield([]byte(b)) {
				return
			}
		}
	}
}

func TestTheHighestClash(t *testing.T) {
	for _, c := range []struct {
		ours, theirs []string
		want         int // -1: there is none
	}{
		{[]string{"a"}, []string{"b"}, 0},
		{[]string{"a"}, []string{""}, 0},
		{[]string{""}, []string{"b"}, 0},
		{[]string{"a", "m", "n"}, []string{"b", "m", "n"}, 0},
		{[]string{"a", "m", "n"}, []string{"b", "M", "n"}, 1},
		{[]string{"a", "m", "n"}, []string{"b", "m", "N"}, 2},
		{[]string{"a", "m", "n"}, []string{"b", "M", "N"}, 2},
		{[]string{"a", "m", "n"}, []string{"a", "M", "n"}, 1},
		{[]string{"a", "m", "n", "o"}, []string{"b", "M", "n", "o"}, 1},
		{[]string{"a", "m", "n", "o"}, []string{"b", "m", "N", "o"}, 2},
		{[]string{"a", "m", "n", "o"}, []string{"m", "a", "n", "o"}, 1},
		{[]string{"a"}, []string{"a"}, -1},
		{[]string{"a", "m"}, []string{"a", "m"}, -1},
		{nil, nil, -1},
	} {
		first, second, ok := highest(row(c.ours...), row(c.theirs...))
		if c.want < 0 {
			if ok || first != nil || second != nil {
				t.Fatalf("of %q and %q: %q, %q, %t", c.ours, c.theirs, first, second, ok)
			}
			continue
		}
		if !ok || string(first) != c.ours[c.want] || string(second) != c.theirs[c.want] {
			t.Fatalf("of %q and %q: %q, %q, %t", c.ours, c.theirs, first, second, ok)
		}
	}
}

// madeByTheWords are the byte strings that a path makes of a leaf, the leaf's first, as the document words them.
func madeByTheWords(n, i int, leaf []byte, path []sha.Digest) [][]byte {
	if n == 1 {
		return [][]byte{slices.Concat([]byte{0}, leaf)}
	}
	k, last := splitByTheWords(n), len(path)-1
	d := path[last]
	if i < k {
		r := foldByTheWords(k, i, leaf, path[:last])
		return append(madeByTheWords(k, i, leaf, path[:last]), slices.Concat([]byte{1}, r[:], d[:]))
	}
	r := foldByTheWords(n-k, i-k, leaf, path[:last])
	return append(madeByTheWords(n-k, i-k, leaf, path[:last]), slices.Concat([]byte{1}, d[:], r[:]))
}

func TestWhatPathsAreMadeOf(t *testing.T) {
	for _, n := range counts() {
		leaves := sample(n, 1)
		for _, i := range places(n) {
			own := pathByTheWords(leaves, i)
			for _, path := range [][]sha.Digest{own, some(len(own), 5)} {
				want := madeByTheWords(n, i, leaves[i], path)
				all := made(n, i, leaves[i], path)
				for range 2 {
					if got := slices.Collect(all); !slices.EqualFunc(got, want, bytes.Equal) {
						t.Fatalf("leaf %d of %d is made of %x, not %x", i, n, got, want)
					}
				}
			}
		}
	}
}

func TestWhatIsApart(t *testing.T) {
	// No clash is known: with paths of one length that make other roots, what stands highest is what both roots are of, the leaves' one first.
	for n := 1; n <= 20; n++ {
		leaves := sample(n, 1)
		for i := range n {
			own := pathByTheWords(leaves, i)
			for _, path := range [][]sha.Digest{own, some(len(own), 6)} {
				leaf := message(71, i)
				want, other := madeByTheWords(n, i, leaves[i], own), madeByTheWords(n, i, leaf, path)
				ours, theirs, ok := apart(leaves, i, leaf, path)
				if !ok || !bytes.Equal(ours, want[len(own)]) || !bytes.Equal(theirs, other[len(own)]) {
					t.Fatalf("leaf %d of %d: %x, %x, %t", i, n, ours, theirs, ok)
				}
			}
			if ours, theirs, ok := apart(leaves, i, leaves[i], own); ok || ours != nil || theirs != nil {
				t.Fatalf("leaf %d of %d: %x, %x are apart", i, n, ours, theirs)
			}
		}
		if ours, theirs, ok := apart(leaves, n, nil, nil); ok || ours != nil || theirs != nil {
			t.Fatalf("leaf %d of %d: %x, %x are apart", n, n, ours, theirs)
		}
	}
}

// weak is a digest of which there are 256 alone.
func weak(b []byte) sha.Digest {
	return sha.Digest{0: sha.Of(b)[0]}
}

// weakRow are the byte strings that a path makes of a leaf among n, if digests are weak; up is whether the leaf's side stands left, node by node.
func weakRow(leaf []byte, up []bool, path []sha.Digest) [][]byte {
	row := [][]byte{tree.Outer(leaf)}
	for j, d := range path {
		own := weak(row[j])
		if up[j] {
			row = append(row, tree.Inner(own, d))
		} else {
			row = append(row, tree.Inner(d, own))
		}
	}
	return row
}

func TestAClashOfWeakDigests(t *testing.T) {
	// With digests that clash easily, whatever path holds for another leaf has a clash, and the highest one is found.
	up, found := []bool{true, false, false, true}, [5]int{}
	own := []sha.Digest{weak([]byte("1")), weak([]byte("2")), weak([]byte("3")), weak([]byte("4"))}
	ours := weakRow([]byte("leaf"), up, own)
	root := weak(ours[len(own)])
	for seed := range 60000 {
		path := slices.Clone(own)
		for j := range seed % 5 {
			path[j] = weak(message(5, seed+j))
		}
		theirs := weakRow(message(6, seed), up, path)
		if weak(theirs[len(own)]) != root {
			continue
		}
		first, second, ok := highest(slices.Values(ours), slices.Values(theirs))
		at := slices.IndexFunc(ours, func(b []byte) bool { return bytes.Equal(b, first) })
		if !ok || bytes.Equal(first, second) || weak(first) != weak(second) || at < 0 || !bytes.Equal(second, theirs[at]) {
			t.Fatalf("%x and %x: %x, %x, %t", ours, theirs, first, second, ok)
		}
		if !slices.EqualFunc(ours[at+1:], theirs[at+1:], bytes.Equal) {
			t.Fatalf("%x and %x: there is a higher one than number %d", ours, theirs, at)
		}
		found[at]++
	}
	if slices.Contains(found[:], 0) {
		t.Fatalf("not at every height: %v", found)
	}
}

func TestGoingOverTurnsMayBreakOff(t *testing.T) {
	for n := 1; n <= 40; n++ {
		for i := range n {
			path := some(lengthByTheWords(n, i), 7)
			want := madeByTheWords(n, i, nil, path)
			for stop := range want {
				var got [][]byte
				for b := range made(n, i, nil, path) {
					got = append(got, b)
					if len(got) > stop {
						break
					}
				}
				if !slices.EqualFunc(got, want[:stop+1], bytes.Equal) {
					t.Fatalf("leaf %d of %d, up to number %d: %x, not %x", i, n, stop, got, want[:stop+1])
				}
			}
			count := 0
			for range turns(n, i) {
				if count++; count > len(path)/2 {
					break
				}
			}
		}
	}
}
