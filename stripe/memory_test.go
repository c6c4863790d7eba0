package stripe

import (
	"bytes"
	"slices"
	"testing"
)

// spoil writes over a list, and the room behind it.
func spoil[T byte | int](list []T) {
	for i := range list[:cap(list)] {
		list[:cap(list)][i] += 101
	}
}

// roomyBlocks are blocks with more behind each, and others behind all.
func roomyBlocks(blocks [][]byte) [][]byte {
	list := make([][]byte, 0, len(blocks)+2)
	for _, block := range blocks {
		list = append(list, roomy(block)[:len(block)])
	}
	return append(list, []byte{1}, []byte{2})[:len(blocks)]
}

// inFull are blocks with the room behind each and behind all.
func inFull(blocks [][]byte) [][]byte {
	var list [][]byte
	for _, block := range blocks[:cap(blocks)] {
		list = append(list, slices.Clone(block[:cap(block)]))
	}
	return list
}

// damaged are all blocks of a file of which some are gone, and some changed.
func damaged(t *testing.T, size int) [][]byte {
	t.Helper()
	blocks, next := blocksOf(t, fileOf(size)), numbers(uint32(size))
	for _, group := range parts(blocks, size) {
		harm(group, some(len(group), 9, next), 5, next)
	}
	return blocks
}

func TestNothingGivenIsChanged(t *testing.T) {
	for _, size := range sizes() {
		file := roomy(fileOf(size))
		Pad(file[:size])
		Blocks(file[:size])
		if !bytes.Equal(file, roomy(fileOf(size))) {
			t.Fatalf("a file of %d bytes, or the room behind it, was changed", size)
		}
		blocks := roomyBlocks(damaged(t, size))
		was := inFull(blocks)
		Rebuild(blocks, size)
		for j := range 8 {
			Column(blocks, j)
		}
		if !slices.EqualFunc(inFull(blocks), was, bytes.Equal) {
			t.Fatalf("the blocks of %d bytes, or the room behind them, were changed", size)
		}
	}
}

func TestAnswersAreTheCallersAlone(t *testing.T) {
	for _, size := range sizes() {
		file, blocks := fileOf(size), damaged(t, size)
		was, wasBlocks := slices.Clone(file), copied(blocks)
		shape, _ := Shape(size)
		got, err := Rebuild(blocks, size)
		if err != nil {
			t.Fatal(err)
		}
		wantErased, wantErrors := slices.Clone(got.Erased), slices.Clone(got.Errors)
		spoil(got.File)
		spoil(got.Erased)
		if !slices.Equal(got.Errors, wantErrors) {
			t.Fatalf("of %d bytes: writing over one list changed another", size)
		}
		spoil(got.Errors)
		spoil(shape)
		spoil(Pad(file))
		spoil(Column(blocks, 3))
		if !bytes.Equal(file, was) || !slices.EqualFunc(blocks, wasBlocks, bytes.Equal) {
			t.Fatalf("of %d bytes: writing over answers changed what was given", size)
		}
		if again, _ := Shape(size); !slices.Equal(again, shapeOf(size)) {
			t.Fatalf("Shape(%d) became %v", size, again)
		}
		rebuilt(t, blocks, file, wantErased, wantErrors)
	}
}

func TestBlocksShareNoMemory(t *testing.T) {
	for _, size := range sizes() {
		file := fileOf(size)
		blocks, want := blocksOf(t, file), blocksOf(t, file)
		for i := range blocks {
			spoil(blocks[i])
			for k := i + 1; k < len(blocks); k++ {
				if !bytes.Equal(blocks[k], want[k]) {
					t.Fatalf("of %d bytes: writing over block %d changed block %d", size, i, k)
				}
			}
		}
		if !bytes.Equal(file, fileOf(size)) {
			t.Fatalf("writing over blocks changed a file of %d bytes", size)
		}
		if again := blocksOf(t, file); !slices.EqualFunc(again, want, bytes.Equal) {
			t.Fatalf("writing over blocks changed those of %d bytes", size)
		}
	}
}
