package stripe

import (
	"bytes"
	"errors"
	"slices"
	"testing"

	"bailee/api"
	"bailee/repair"
)

// rebuilt holds that blocks are rebuilt to a file, and how many of each group were erased and changed.
func rebuilt(t *testing.T, blocks [][]byte, file []byte, erased, changed []int) {
	t.Helper()
	got, err := Rebuild(blocks, len(file))
	if err != nil || !bytes.Equal(got.File, file) || !slices.Equal(got.Erased, erased) || !slices.Equal(got.Errors, changed) {
		t.Fatalf("of %d bytes: %v, %v, not %v, erased %v, changed %v", len(file), got, err, file, erased, changed)
	}
}

// refused holds that there is an error, and zero values beside it.
func refused(t *testing.T, blocks [][]byte, size int, want error) {
	t.Helper()
	got, err := Rebuild(blocks, size)
	if !errors.Is(err, want) || len(got.File) != 0 || len(got.Erased) != 0 || len(got.Errors) != 0 {
		t.Fatalf("Rebuild(%v, %d) = %v, %v, not %v", blocks, size, got, err, want)
	}
}

func TestRebuildWhatIsWhole(t *testing.T) {
	for _, size := range sizes() {
		for _, file := range [][]byte{fileOf(size), make([]byte, size)} {
			none := make([]int, len(shapeOf(size)))
			rebuilt(t, blocksOf(t, file), file, none, none)
		}
	}
}

func TestRebuildAllThatIsBorne(t *testing.T) {
	for _, size := range []int{0, 12, 300} {
		file := fileOf(size)
		blocks := blocksOf(t, file)
		for e := range 33 {
			for wrong := range (32-e)/2 + 1 {
				next, bad := numbers(uint32(size*9000+e*40+wrong)), copied(blocks)
				harm(bad, some(len(bad), e+wrong, next), e, next)
				rebuilt(t, bad, file, []int{e}, []int{wrong})
			}
		}
	}
}

func TestRebuildEachGroupForItself(t *testing.T) {
	for _, size := range []int{1784, 1785, 1793, 2000} {
		file := fileOf(size)
		blocks := blocksOf(t, file)
		for e := 0; e < 33; e += 4 {
			var erased, changed []int
			next, bad := numbers(uint32(size+e)), copied(blocks)
			for g, group := range parts(bad, size) {
				gone := e
				if g == 1 {
					gone = 32 - e
				}
				wrong := (32 - gone) / 2
				harm(group, some(len(group), gone+wrong, next), gone, next)
				erased, changed = append(erased, gone), append(changed, wrong)
			}
			rebuilt(t, bad, file, erased, changed)
		}
	}
}

func TestRebuildWithoutDataOrWithoutParity(t *testing.T) {
	for _, size := range []int{0, 8, 100, 256} {
		file := fileOf(size)
		blocks := blocksOf(t, file)
		data := len(blocks) - 32
		for which := range 7 {
			first, last := copied(blocks), copied(blocks)
			for i := range blocks {
				if i < data {
					first[i] = unlike(which)
				} else {
					last[i] = unlike(which)
				}
			}
			rebuilt(t, first, file, []int{data}, []int{0})
			rebuilt(t, last, file, []int{32}, []int{0})
		}
	}
}

func TestRebuildByteByByte(t *testing.T) {
	// Each byte's word bears 16 changes for itself: so all in all many more blocks than 16 may be changed.
	file := fileOf(1700)
	bad := blocksOf(t, file)
	order := some(len(bad), 8*16, numbers(5))
	for i, place := range order {
		bad[place][i%8] ^= byte(i + 1)
	}
	rebuilt(t, bad, file, []int{0}, []int{128})
	// A block that is changed in more than one byte is one block.
	for i := range 16 {
		bad[order[i*8]][0] ^= byte(i*8 + 1)
		bad[order[i*8+1]][0] ^= 77
	}
	rebuilt(t, bad, file, []int{0}, []int{112})
	// One more in one of the bytes, and that word is lost, or another one.
	bad[order[2]][0] ^= 77
	if got, err := Rebuild(bad, len(file)); err == nil && bytes.Equal(got.File, file) {
		t.Fatalf("17 changes of a word were borne: %v", got)
	}
}

func TestRebuildEachByteOfABlock(t *testing.T) {
	file := fileOf(1785)
	bad := blocksOf(t, file)
	for place := range bad {
		want := []int{1, 0}
		if place >= 255 {
			want = []int{0, 1}
		}
		for j := range 8 {
			bad[place][j] ^= byte(j*31 + 1)
			rebuilt(t, bad, file, []int{0, 0}, want)
			bad[place][j] ^= byte(j*31 + 1)
		}
	}
}

// wordByWord is what is rebuilt by the document's own words, with layer 5's calls alone.
func wordByWord(blocks [][]byte, size int) (Rebuilt, bool) {
	var want Rebuilt
	for _, group := range parts(blocks, size) {
		var erased []int
		right := make([][8]byte, len(group))
		changed := map[int]int{}
		for i, block := range group {
			if len(block) != 8 {
				erased = append(erased, i)
			}
		}
		for j := range 8 {
			word := make([]byte, len(group))
			for i, block := range group {
				if len(block) == 8 {
					word[i] = block[j]
				}
			}
			fixed, err := repair.Fix(word, erased)
			if err != nil {
				return Rebuilt{}, false
			}
			for i, symbol := range fixed.Word {
				right[i][j] = symbol
				if symbol != word[i] && !slices.Contains(erased, i) {
					changed[i]++
				}
			}
		}
		for _, block := range right[:len(group)-32] {
			want.File = append(want.File, block[:]...)
		}
		want.Erased, want.Errors = append(want.Erased, len(erased)), append(want.Errors, len(changed))
	}
	for _, b := range want.File[size:] {
		if b != 0 {
			return Rebuilt{}, false
		}
	}
	want.File = want.File[:size]
	return want, true
}

func TestRebuildBeyondWhatIsBorne(t *testing.T) {
	lost, other := 0, 0
	for _, size := range []int{0, 8, 9, 64, 1784, 1800} {
		file := fileOf(size)
		blocks := blocksOf(t, file)
		for e := range 33 {
			for _, more := range []int{1, 2, 5} {
				next, bad := numbers(uint32(size*700+e*9+more)), copied(blocks)
				list := parts(bad, size)
				group := list[next()%len(list)]
				// Changed in one byte alone: so one word decides.
				places := some(len(group), min(e+(32-e)/2+more, len(group)), next)
				for i, place := range places {
					if i < e {
						group[place] = unlike(next())
					} else {
						group[place][size%8] ^= byte(next()%255 + 1)
					}
				}
				if want, ok := wordByWord(bad, size); ok {
					rebuilt(t, bad, want.File, want.Erased, want.Errors)
					other++
				} else {
					refused(t, bad, size, api.ErrLost)
					lost++
				}
			}
		}
	}
	if lost < 100 || other < 10 {
		t.Fatalf("%d were lost, %d rebuilt", lost, other)
	}
}

func TestRebuildWithTooManyErased(t *testing.T) {
	for _, size := range sizes() {
		blocks := blocksOf(t, fileOf(size))
		for g, group := range parts(blocks, size) {
			for _, many := range []int{33, 34, 100, 255} {
				bad := copied(blocks)
				next := numbers(uint32(size + g))
				at := parts(bad, size)[g]
				harm(at, some(len(group), min(many, len(group)), next), many, next)
				refused(t, bad, size, api.ErrLost)
			}
		}
		refused(t, make([][]byte, len(blocks)), size, api.ErrLost)
	}
}

func TestRebuildOutOfOneBlock(t *testing.T) {
	// Of the 33 blocks of the shortest file one is enough, whichever it is.
	file := []byte("hello")
	blocks := blocksOf(t, file)
	for kept := range blocks {
		bad := make([][]byte, 33)
		bad[kept] = slices.Clone(blocks[kept])
		rebuilt(t, bad, file, []int{32}, []int{0})
	}
}

func TestRebuildToLessThanWasThere(t *testing.T) {
	for _, size := range []int{1, 2, 8, 9, 15, 16, 1784, 1785, 1999, 2000} {
		file := fileOf(size)
		blocks := blocksOf(t, file)
		for less := range size {
			if !slices.Equal(shapeOf(less), shapeOf(size)) {
				continue
			}
			refused(t, blocks, less, api.ErrLost)
			gone := copied(blocks)
			gone[0], gone[len(gone)-1] = nil, nil
			refused(t, gone, less, api.ErrLost)
		}
	}
}

func TestRebuildToMoreThanWasThere(t *testing.T) {
	// Noughts behind a file are as good as noughts of it.
	for _, size := range []int{0, 1, 5, 8, 9, 1777, 1785, 1999} {
		file := fileOf(size)
		blocks, none := blocksOf(t, file), make([]int, len(shapeOf(size)))
		whole := Pad(file)
		for more := size; more <= len(whole); more++ {
			rebuilt(t, blocks, whole[:more], none, none)
		}
	}
	rebuilt(t, blocksOf(t, make([]byte, 8)), nil, []int{0}, []int{0})
}

func TestRebuildWithAWrongEndThatIsRepaired(t *testing.T) {
	file := fileOf(13)
	bad := blocksOf(t, file)
	for j := 5; j < 8; j++ {
		bad[1][j] = 9
	}
	rebuilt(t, bad, file, []int{0}, []int{1})
}

func TestRebuildOfNotSoManyBlocks(t *testing.T) {
	for _, size := range sizes() {
		blocks := blocksOf(t, fileOf(size))
		refused(t, nil, size, api.ErrForm)
		refused(t, [][]byte{}, size, api.ErrForm)
		refused(t, blocks[1:], size, api.ErrForm)
		refused(t, blocks[:len(blocks)-1], size, api.ErrForm)
		refused(t, append(copied(blocks), blocks[0]), size, api.ErrForm)
		refused(t, append(copied(blocks), nil), size, api.ErrForm)
		refused(t, append(copied(blocks), copied(blocks)...), size, api.ErrForm)
		// Too many that are erased are no fault that is told ahead.
		refused(t, make([][]byte, len(blocks)+1), size, api.ErrForm)
	}
	refused(t, blocksOf(t, fileOf(9)), 8, api.ErrForm)
	refused(t, blocksOf(t, fileOf(8)), 9, api.ErrForm)
	refused(t, blocksOf(t, fileOf(1784)), 1785, api.ErrForm)
	refused(t, blocksOf(t, fileOf(1785)), 1784, api.ErrForm)
}

func TestRebuildToASizeThatNoFileHas(t *testing.T) {
	for _, size := range wrongSizes() {
		refused(t, nil, size, api.ErrSize)
		refused(t, make([][]byte, 33), size, api.ErrSize)
		refused(t, make([][]byte, 314), size, api.ErrSize)
		refused(t, blocksOf(t, fileOf(0)), size, api.ErrSize)
		refused(t, blocksOf(t, fileOf(2000)), size, api.ErrSize)
	}
}
