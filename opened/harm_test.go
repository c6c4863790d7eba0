package opened

import (
	"bytes"
	"slices"
	"testing"
)

// copied are lists in memory of their own; those that aren't there aren't.
func copied(list [][]byte) [][]byte {
	all := make([][]byte, len(list))
	for i, b := range list {
		all[i] = slices.Clone(b)
	}
	return all
}

// ways is how many ways there are to be gone.
const ways = 11

// gone is what hasn't the right tag at a place, in one way of many.
func (l laid) gone(place, way int) []byte {
	was := l.was[place]
	other := l.was[(place+1)%len(l.was)]
	switch way % ways {
	case 0:
		return nil
	case 1:
		return []byte{}
	case 2:
		return slices.Clone(was[:15])
	case 3:
		return append(slices.Clone(was), 0)
	case 4:
		return slices.Clone(was[:8])
	case 5:
		return flipped(was, (place*7+way)%64)
	case 6:
		return flipped(was, 64+(place*7+way)%64)
	case 7:
		return slices.Clone(other)
	case 8:
		return slices.Concat(was[:8], other[8:])
	case 9:
		return make([]byte, 16)
	default:
		return slices.Concat(was[8:], was[:8])
	}
}

// flipped are bytes of which one bit is another.
func flipped(b []byte, bit int) []byte {
	list := slices.Clone(b)
	list[bit/8] ^= 1 << (bit % 8)
	return list
}

// tagged is a block with the right tag at a place.
func (l laid) tagged(place int, block []byte) []byte {
	return slices.Concat(block, tagOf(l.object, place, block))
}

// changed is another block than the one at a place, with the right tag: one byte of it is another one, or all are, or some.
func (l laid) changed(place int, next func() int) []byte {
	block := slices.Clone(l.was[place][:8])
	at, which := next()%8, next()%3
	for j := range block {
		if j == at || which == 0 || which == 1 && next()%2 == 0 {
			block[j] ^= byte(next()%255 + 1)
		}
	}
	return l.tagged(place, block)
}

// harm makes the first e of some blocks gone, and changes the others of them, with a right tag.
func (l laid) harm(stored [][]byte, blocks []int, e int, next func() int) {
	for k, i := range blocks {
		place := l.places[i]
		if k < e {
			stored[place] = l.gone(place, next())
		} else {
			stored[place] = l.changed(place, next)
		}
	}
}

func TestWhatIsGoneHasNoRightTag(t *testing.T) {
	for _, o := range few() {
		l := lay(t, o)
		for place := range l.stored {
			for way := range ways {
				b := l.gone(place, way)
				if len(b) == 16 && bytes.Equal(b[8:], tagOf(o, place, b[:8])) {
					t.Fatalf("of %v, at %d, way %d isn't one to be gone", o.p, place, way)
				}
			}
		}
	}
}
