package stripe

import (
	"bytes"
	"slices"

	"bailee/api"
	"bailee/repair"
)

// Rebuilt is a file that was rebuilt.
type Rebuilt struct {
	File   []byte
	Erased []int
	Errors []int
}

// Rebuild is the file of blocks.
func Rebuild(blocks [][]byte, size int) (Rebuilt, error) {
	shape, err := Shape(size)
	if err != nil {
		return Rebuilt{}, err
	}
	if len(blocks) != total(shape) {
		return Rebuilt{}, api.ErrForm
	}
	var all Rebuilt
	for _, data := range shape {
		group := blocks[:data+api.Parity]
		right, err := mended(group)
		if err != nil {
			return Rebuilt{}, err
		}
		erased, changed := damage(group, right)
		all.Erased, all.Errors = append(all.Erased, erased), append(all.Errors, changed)
		all.File = append(all.File, slices.Concat(right[:data]...)...)
		blocks = blocks[data+api.Parity:]
	}
	if !noughts(all.File[size:]) {
		return Rebuilt{}, api.ErrLost
	}
	all.File = all.File[:size]
	return all, nil
}

// mended is a group's blocks made right again.
func mended(group [][]byte) ([][]byte, error) {
	var erased []int
	for i, block := range group {
		if !whole(block) {
			erased = append(erased, i)
		}
	}
	right := blank(len(group))
	for j := range api.Block {
		fixed, err := repair.Fix(Column(group, j), erased)
		if err != nil {
			// Layer 5 has an error of its own for too many that are erased: a group is lost all the same.
			return nil, api.ErrLost
		}
		lay(right, j, fixed.Word)
	}
	return right, nil
}

// damage is how many of a group's blocks were erased, and in how many others a byte was changed.
func damage(group, right [][]byte) (erased, changed int) {
	for i, block := range group {
		switch {
		case !whole(block):
			erased++
		case !bytes.Equal(block, right[i]):
			changed++
		}
	}
	return erased, changed
}

// noughts tells whether there is nothing else.
func noughts(list []byte) bool {
	return !slices.ContainsFunc(list, func(b byte) bool { return b != 0 })
}
