package opened

import (
	"bailee/api"
	"bailee/label"
	"bailee/params"
	"bailee/sealed"
	"bailee/stream"
	"bailee/stripe"
)

// Blocks is the file's blocks of stored ones.
func Blocks(master []byte, number int, p params.Params, stored [][]byte) ([][]byte, int, error) {
	plain, err := params.Plain(p)
	if err != nil {
		return nil, 0, err
	}
	keys, err := label.All(master, number)
	if err != nil {
		return nil, 0, err
	}
	if len(stored) != plain+p.Sentinels {
		return nil, 0, api.ErrForm
	}
	all, gone, err := tagged(master, number, p, stored)
	if err != nil {
		return nil, 0, err
	}
	blocks, err := unmasked(keys.Mask, all[:plain])
	if err != nil {
		return nil, 0, err
	}
	return blocks, gone, nil
}

// Load is how many blocks of each group are gone.
func Load(p params.Params, blocks [][]byte) ([]int, error) {
	plain, err := params.Plain(p)
	if err != nil {
		return nil, err
	}
	if len(blocks) != plain {
		return nil, api.ErrForm
	}
	shape, err := stripe.Shape(p.Size)
	if err != nil {
		return nil, err
	}
	var load []int
	for _, data := range shape {
		group := blocks[:data+api.Parity]
		load = append(load, lacking(group))
		blocks = blocks[len(group):]
	}
	return load, nil
}

// tagged are the blocks that are stored with the right tag, by number, the sentinels behind the file's,
// and at how many places there is none.
func tagged(master []byte, number int, p params.Params, stored [][]byte) ([][]byte, int, error) {
	blocks, gone := make([][]byte, len(stored)), 0
	for place, b := range stored {
		is, err := sealed.Tagged(master, number, place, b)
		if err != nil {
			return nil, 0, err
		}
		if !is {
			gone++
			continue
		}
		i, err := sealed.Back(master, number, p, place)
		if err != nil {
			return nil, 0, err
		}
		if blocks[i], _, err = sealed.Parts(b); err != nil {
			return nil, 0, err
		}
	}
	return blocks, gone, nil
}

// unmasked are a file's blocks with their masks off; those that are gone have none.
func unmasked(key []byte, masked [][]byte) ([][]byte, error) {
	blocks := make([][]byte, len(masked))
	for i, b := range masked {
		if !whole(b) {
			continue
		}
		block, err := stream.Mask(key, i, b)
		if err != nil {
			return nil, err
		}
		blocks[i] = block
	}
	return blocks, nil
}

// lacking is how many blocks aren't whole.
func lacking(blocks [][]byte) int {
	many := 0
	for _, block := range blocks {
		if !whole(block) {
			many++
		}
	}
	return many
}

// whole tells whether a block has all of its bytes, and no more.
func whole(block []byte) bool { return len(block) == api.Block }
