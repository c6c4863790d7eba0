package stripe

import (
	"bytes"
	"errors"
	"math"
	"slices"
	"testing"

	"bailee/api"
)

func TestShapeAndTotalOfEachSize(t *testing.T) {
	for size := range api.MaxFile + 1 {
		want := shapeOf(size)
		got, err := Shape(size)
		if err != nil || !slices.Equal(got, want) {
			t.Fatalf("Shape(%d) = %v, %v, not %v", size, got, err, want)
		}
		sum := 0
		for _, data := range want {
			sum += data + 32
		}
		if total, err := Total(size); err != nil || total != sum {
			t.Fatalf("Total(%d) = %d, %v, not %d", size, total, err, sum)
		}
	}
}

func TestShapesThatAreKnown(t *testing.T) {
	cases := []struct {
		size  int
		shape []int
		total int
	}{
		{0, []int{1}, 33},
		{1, []int{1}, 33},
		{8, []int{1}, 33},
		{9, []int{2}, 34},
		{1784, []int{223}, 255},
		{1785, []int{223, 1}, 288},
		{1793, []int{223, 2}, 289},
		{2000, []int{223, 27}, 314},
	}
	for _, c := range cases {
		shape, err := Shape(c.size)
		total, fault := Total(c.size)
		if err != nil || fault != nil || !slices.Equal(shape, c.shape) || total != c.total {
			t.Errorf("of %d bytes: %v, %v; %d, %v", c.size, shape, err, total, fault)
		}
	}
}

func TestSizesThatNoFileHas(t *testing.T) {
	for _, size := range wrongSizes() {
		if shape, err := Shape(size); !errors.Is(err, api.ErrSize) || len(shape) != 0 {
			t.Errorf("Shape(%d) = %v, %v", size, shape, err)
		}
		if total, err := Total(size); !errors.Is(err, api.ErrSize) || total != 0 {
			t.Errorf("Total(%d) = %d, %v", size, total, err)
		}
		for _, place := range []int{math.MinInt, -1, 0, 1, 400, math.MaxInt} {
			if group, in, err := Group(size, place); !errors.Is(err, api.ErrSize) || group != 0 || in != 0 {
				t.Errorf("Group(%d, %d) = %d, %d, %v", size, place, group, in, err)
			}
		}
		if size > 0 && size < 1<<20 {
			if blocks, err := Blocks(make([]byte, size)); !errors.Is(err, api.ErrSize) || len(blocks) != 0 {
				t.Errorf("Blocks of %d bytes: %v, %v", size, blocks, err)
			}
		}
	}
}

func TestPad(t *testing.T) {
	list := append(sizes(), 2001, 2007, 2008, 2009, 4096, 1<<16+3)
	for size := range 100 {
		list = append(list, size)
	}
	for _, size := range list {
		file := fileOf(size)
		got := Pad(file)
		want := slices.Clone(file)
		for len(want)%8 != 0 || len(want) == 0 {
			want = append(want, 0)
		}
		if !bytes.Equal(got, want) {
			t.Fatalf("Pad(%v) = %v, not %v", file, got, want)
		}
	}
	if got := Pad(nil); !bytes.Equal(got, make([]byte, 8)) {
		t.Fatalf("Pad of no bytes is %v", got)
	}
	// The noughts that a file has at its end itself are no block's beginning.
	if got := Pad(make([]byte, 8)); len(got) != 8 {
		t.Fatalf("Pad of a block of noughts has %d bytes", len(got))
	}
}

// standing holds all blocks of a file against what the document says of them.
func standing(t *testing.T, file []byte, blocks [][]byte) {
	t.Helper()
	left := slices.Clone(file)
	for range 8 {
		left = append(left, 0)
	}
	for g, group := range parts(blocks, len(file)) {
		data := len(group) - 32
		for i, block := range group {
			if len(block) != 8 {
				t.Fatalf("of %d bytes block %d of group %d is %v", len(file), i, g, block)
			}
			if i < data {
				if !bytes.Equal(block, left[:8]) {
					t.Fatalf("of %d bytes block %d of group %d is %v, not %v", len(file), i, g, block, left[:8])
				}
				left = left[8:]
			}
		}
		for j := range 8 {
			var word []byte
			for _, block := range group {
				word = append(word, block[j])
			}
			if !coded(word) {
				t.Fatalf("of %d bytes, byte %d of group %d: %v is no code word", len(file), j, g, word)
			}
		}
	}
	if len(left) > 8 {
		t.Fatalf("of %d bytes the last %d stand in no block", len(file), len(left)-8)
	}
}

func TestBlocks(t *testing.T) {
	list := sizes()
	for size := range 40 {
		list = append(list, size, size*50)
	}
	for _, size := range list {
		for _, file := range [][]byte{fileOf(size), make([]byte, size), bytes.Repeat([]byte{255}, size)} {
			blocks := blocksOf(t, file)
			if total, _ := Total(size); len(blocks) != total {
				t.Fatalf("of %d bytes there are %d blocks, not %d", size, len(blocks), total)
			}
			standing(t, file, blocks)
		}
	}
}

func TestBlocksOfNoBytes(t *testing.T) {
	for _, file := range [][]byte{nil, {}, {0}, make([]byte, 8)} {
		blocks := blocksOf(t, file)
		if len(blocks) != 33 {
			t.Fatalf("there are %d blocks", len(blocks))
		}
		for i, block := range blocks {
			if !bytes.Equal(block, make([]byte, 8)) {
				t.Fatalf("block %d is %v", i, block)
			}
		}
	}
}

func TestGroup(t *testing.T) {
	for _, size := range sizes() {
		place := 0
		for g, data := range shapeOf(size) {
			for i := range data + 32 {
				if group, in, err := Group(size, place); err != nil || group != g || in != i {
					t.Fatalf("Group(%d, %d) = %d, %d, %v, not %d, %d", size, place, group, in, err, g, i)
				}
				place++
			}
		}
		for _, at := range []int{math.MinInt, math.MinInt32, -255, -33, -2, -1, place, place + 1, 512, math.MaxInt32, math.MaxInt} {
			if group, in, err := Group(size, at); !errors.Is(err, api.ErrRange) || group != 0 || in != 0 {
				t.Fatalf("Group(%d, %d) = %d, %d, %v", size, at, group, in, err)
			}
		}
	}
}

func TestColumn(t *testing.T) {
	blocks := [][]byte{{10, 11, 12, 13, 14, 15, 16, 17}, nil, {1}, {20, 21, 22, 23, 24, 25, 26, 27}, {1, 2, 3, 4, 5, 6, 7}, {1, 2, 3, 4, 5, 6, 7, 8, 9}, {}, {30, 31, 32, 33, 34, 35, 36, 37}}
	for j := -40; j < 40; j++ {
		at := byte((j + 400) % 8)
		if got, want := Column(blocks, j), []byte{10 + at, 0, 0, 20 + at, 0, 0, 0, 30 + at}; !bytes.Equal(got, want) {
			t.Fatalf("Column(%d) = %v, not %v", j, got, want)
		}
	}
	far := []struct {
		j  int
		at byte
	}{{math.MinInt, 0}, {math.MinInt + 1, 1}, {math.MinInt + 7, 7}, {math.MaxInt, 7}, {math.MaxInt - 1, 6}, {math.MaxInt - 7, 0}}
	for _, c := range far {
		if got := Column(blocks[:1], c.j); !bytes.Equal(got, []byte{10 + c.at}) {
			t.Errorf("Column(%d) = %v, not %d", c.j, got, 10+c.at)
		}
	}
	if got := Column(nil, 3); len(got) != 0 {
		t.Errorf("Column of no blocks is %v", got)
	}
	// There may be more blocks than any file has.
	many := make([][]byte, 3000)
	many[2999] = []byte{0, 0, 0, 0, 0, 0, 0, 9}
	if got := Column(many, -1); len(got) != 3000 || got[2999] != 9 || got[0] != 0 {
		t.Errorf("Column of 3000 blocks has %d bytes", len(got))
	}
}
