package path

import (
	"bytes"
	"slices"
	"testing"

	"bailee/sha"
	"bailee/tree"
)

// roomy is a list with more behind it, all of it told.
func roomy(list []byte) []byte { return slices.Concat(list, bytes.Repeat([]byte{123}, 100)) }

// roomyPath is a path with more behind it, all of it told.
func roomyPath(path []sha.Digest) []sha.Digest { return slices.Concat(path, some(12, 9)) }

// roomyLeaves are leaves with more behind each, and behind them all, all of it told.
func roomyLeaves(leaves [][]byte) [][]byte {
	var list [][]byte
	for _, b := range leaves {
		list = append(list, roomy(b))
	}
	return append(list, []byte("room"), nil, []byte("more room"))
}

// within are the leaves without what stands behind each of them.
func within(whole, leaves [][]byte) [][]byte {
	list := slices.Clone(whole)
	for i, b := range leaves {
		list[i] = whole[i][:len(b)]
	}
	return list
}

func TestNothingGivenIsChanged(t *testing.T) {
	for n := 1; n <= 40; n++ {
		leaves := sample(n, 1)
		whole := roomyLeaves(leaves)
		list := within(whole, leaves)
		for i := range n {
			path := roomyPath(pathByTheWords(leaves, i))
			given := path[:lengthByTheWords(n, i)]
			other := roomy([]byte("other"))
			Make(list[:n], i)
			Fold(n, i, list[i], given)
			Check(tree.Root(leaves), n, i, list[i], given)
			Clash(list[:n], i, list[i], given)
			Clash(list[:n], i, other[:5], given)
			Bytes(given)
			if !slices.Equal(path, roomyPath(pathByTheWords(leaves, i))) || !bytes.Equal(other, roomy([]byte("other"))) {
				t.Fatalf("a path of leaf %d of %d, or the room behind it, was changed", i, n)
			}
		}
		if !slices.EqualFunc(whole, roomyLeaves(leaves), bytes.Equal) || !slices.EqualFunc(list, within(whole, leaves), bytes.Equal) {
			t.Fatalf("%d leaves, or the room behind them, were changed", n)
		}
	}
	for size := range 340 {
		whole := roomy(message(size, 1))
		Parse(whole[:size])
		if !bytes.Equal(whole, roomy(message(size, 1))) {
			t.Fatalf("%d bytes, or the room behind them, were changed", size)
		}
	}
}

// spoil writes over bytes, and the room behind them.
func spoil(list []byte) {
	for i := range list[:cap(list)] {
		list[:cap(list)][i] ^= 255
	}
}

// spoilPath writes over digests, and the room behind them.
func spoilPath(path []sha.Digest) {
	for i := range path[:cap(path)] {
		spoil(path[:cap(path)][i][:])
	}
}

func TestAnswersAreTheCallersAlone(t *testing.T) {
	for n := 1; n <= 40; n++ {
		leaves := sample(n, 1)
		for i := range n {
			want := pathByTheWords(leaves, i)
			first, _ := Make(leaves, i)
			second, _ := Make(leaves, i)
			spoilPath(first)
			if !slices.Equal(second, want) || !slices.EqualFunc(leaves, sample(n, 1), bytes.Equal) {
				t.Fatalf("writing over the path of leaf %d of %d changed others", i, n)
			}
			spoil(Bytes(second))
			if !slices.Equal(second, want) {
				t.Fatalf("writing over the bytes of the path of leaf %d of %d changed it", i, n)
			}
			b := Bytes(second)
			back, _ := Parse(b)
			spoilPath(back)
			if again, err := Parse(b); err != nil || !slices.Equal(again, want) {
				t.Fatalf("writing over the parsed path of leaf %d of %d changed its bytes", i, n)
			}
		}
	}
}

func TestWhatIsGivenIsNotKept(t *testing.T) {
	for n := 1; n <= 40; n++ {
		for i := range n {
			leaves := sample(n, 1)
			path, _ := Make(leaves, i)
			for _, b := range leaves {
				spoil(b)
			}
			want := pathByTheWords(sample(n, 1), i)
			if !slices.Equal(path, want) {
				t.Fatalf("writing over %d leaves that were given changed a path", n)
			}
			b := Bytes(path)
			spoilPath(path)
			back, err := Parse(b)
			spoil(b)
			if err != nil || !slices.Equal(back, want) {
				t.Fatalf("writing over a path, or bytes, that were given changed an answer")
			}
		}
	}
}
