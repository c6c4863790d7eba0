package stream

import "bailee/api"

// Mask masks a block.
func Mask(key []byte, i int, b []byte) ([]byte, error) {
	masked, err := Masks(key, i, [][]byte{b})
	if err != nil {
		return nil, err
	}
	return masked[0], nil
}

// Masks masks blocks.
func Masks(key []byte, from int, list [][]byte) ([][]byte, error) {
	for place, b := range list {
		if err := fault(from+place, b); err != nil {
			return nil, err
		}
	}
	s, masked := sourceOf(key), make([][]byte, len(list))
	room := make([]byte, len(list)*api.Block)
	for place, b := range list {
		// Each piece of the room ends where the next one begins: what is put behind it can't go over that.
		masked[place], room = room[:api.Block:api.Block], room[api.Block:]
		lay(masked[place], b, s.block(from+place))
	}
	return masked, nil
}

// fault is why a block can't be masked by block i.
func fault(i int, b []byte) error {
	switch {
	case len(b) != api.Block:
		return api.ErrSize
	case !inRange(i):
		return api.ErrRange
	}
	return nil
}

// lay lays one block xor another one into room for one.
func lay(room, one, other []byte) {
	for j := range room {
		room[j] = one[j] ^ other[j]
	}
}
