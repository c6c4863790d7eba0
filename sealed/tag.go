package sealed

import (
	"slices"

	"bailee/api"
	"bailee/label"
	"bailee/mac"
)

// Tagged tells whether a stored block has the right tag.
func Tagged(master []byte, number, place int, stored []byte) (bool, error) {
	keys, err := label.All(master, number)
	if err != nil {
		return false, err
	}
	if !isPlace(place) || len(stored) != api.Stored {
		return false, nil
	}
	block, tag := stored[:api.Block], stored[api.Block:]
	return mac.Make(keys.Tag).Right(tag, label.Number(place), block), nil
}

// Tag is a block with its tag.
func Tag(master []byte, number, place int, block []byte) ([]byte, error) {
	keys, err := label.All(master, number)
	if err != nil {
		return nil, err
	}
	if !isPlace(place) {
		return nil, api.ErrRange
	}
	if len(block) != api.Block {
		return nil, api.ErrSize
	}
	return tagged(mac.Make(keys.Tag), place, block), nil
}

// Parts is a stored block's parts.
func Parts(stored []byte) (block, tag []byte, err error) {
	if len(stored) != api.Stored {
		return nil, nil, api.ErrSize
	}
	return slices.Clone(stored[:api.Block]), slices.Clone(stored[api.Block:]), nil
}

// isPlace tells whether a stored block may stand there, of whatever object.
func isPlace(place int) bool { return place >= 0 && place < api.MaxLeaves }

// tagged is a block with its tag for a place.
func tagged(by *mac.Key, place int, block []byte) []byte {
	// The place is in the tag: a block that was moved elsewhere has no right one there.
	return slices.Concat(block, by.Tag(label.Number(place), block))
}
