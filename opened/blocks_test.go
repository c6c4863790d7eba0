package opened

import (
	"bytes"
	"errors"
	"slices"
	"testing"

	"bailee/api"
)

// holdsBlocks holds that the blocks of what is stored are these, and that so many places are gone.
func holdsBlocks(t *testing.T, o object, stored, want [][]byte, gone int) {
	t.Helper()
	got, many, err := Blocks(o.master, o.number, o.p, stored)
	if err != nil || many != gone || !slices.EqualFunc(got, want, bytes.Equal) {
		t.Fatalf("Blocks of %v = %x, %d, %v, not %x, %d", o.p, got, many, err, want, gone)
	}
}

func TestBlocksOfWhatWasJustSealed(t *testing.T) {
	for _, o := range sample() {
		l := lay(t, o)
		holdsBlocks(t, o, l.stored, l.blocks, 0)
	}
}

func TestBlocksByTheDocumentsWords(t *testing.T) {
	for k, o := range sample() {
		l := lay(t, o)
		next := numbers(uint32(k))
		for _, many := range []int{1 + k%30, len(l.stored)} {
			stored := copied(l.stored)
			for _, i := range some(upTo(len(stored)), many, next) {
				l.harm(stored, []int{i}, next()%2, next)
			}
			want, gone := l.blocksOf(stored)
			holdsBlocks(t, o, stored, want, gone)
		}
	}
}

func TestEachPlaceIsGoneInEachWay(t *testing.T) {
	for _, o := range few()[:3] {
		l := lay(t, o)
		for i, place := range l.places {
			stored := copied(l.stored)
			want := copied(l.blocks)
			if i < len(want) {
				want[i] = nil
			}
			for _, way := range []int{i % ways, (i + 5) % ways} {
				stored[place] = l.gone(place, way)
				holdsBlocks(t, o, stored, want, 1)
			}
		}
	}
}

func TestOnePlaceIsGoneInAnyWay(t *testing.T) {
	l := lay(t, few()[1])
	for _, i := range []int{0, 1, 2, 33, 34, 37} {
		want := copied(l.blocks)
		if i < len(want) {
			want[i] = nil
		}
		for way := range ways {
			stored := copied(l.stored)
			stored[l.places[i]] = l.gone(l.places[i], way)
			holdsBlocks(t, l.object, stored, want, 1)
		}
	}
}

func TestEachBitOfWhatIsStoredIsUnderTheTag(t *testing.T) {
	l := lay(t, few()[1])
	want := copied(l.blocks)
	want[1] = nil
	for bit := range 128 {
		stored := copied(l.stored)
		stored[l.places[1]] = flipped(stored[l.places[1]], bit)
		holdsBlocks(t, l.object, stored, want, 1)
	}
}

func TestBlocksThatChangedTheirPlacesAreGone(t *testing.T) {
	for _, o := range few() {
		l := lay(t, o)
		stored := copied(l.stored)
		slices.Reverse(stored)
		want, gone := make([][]byte, len(l.blocks)), len(stored)
		if middle := len(stored) / 2; len(stored)%2 == 1 {
			// It stands where it stood.
			gone--
			if i := slices.Index(l.places, middle); i < len(want) {
				want[i] = l.blocks[i]
			}
		}
		holdsBlocks(t, o, stored, want, gone)
	}
}

func TestBlocksOfAnotherObjectAreGone(t *testing.T) {
	for _, o := range few() {
		l := lay(t, o)
		others := []object{o, o}
		others[0].number = o.number/2 + 1
		others[1].master = append(slices.Clone(o.master[:len(o.master)-1]), 77)
		for _, other := range others {
			none := make([][]byte, len(l.blocks))
			holdsBlocks(t, o, lay(t, other).stored, none, len(l.stored))
			holdsBlocks(t, other, l.stored, none, len(l.stored))
		}
	}
}

func TestBlocksOfNothing(t *testing.T) {
	for _, o := range few() {
		l := lay(t, o)
		holdsBlocks(t, o, make([][]byte, len(l.stored)), make([][]byte, len(l.blocks)), len(l.stored))
	}
}

func TestBlocksThatAreGoneHaveNoBytes(t *testing.T) {
	for _, o := range few() {
		l := lay(t, o)
		for i, place := range l.places[:len(l.blocks)] {
			l.stored[place] = l.gone(place, i)
		}
		blocks, gone, err := Blocks(o.master, o.number, o.p, l.stored)
		if err != nil || gone != len(l.blocks) || slices.ContainsFunc(blocks, func(b []byte) bool { return len(b) != 0 }) {
			t.Fatalf("Blocks of %v = %x, %d, %v", o.p, blocks, gone, err)
		}
	}
}

func TestSentinelsAreLetGo(t *testing.T) {
	for _, o := range few() {
		l := lay(t, o)
		next, stored := numbers(3), copied(l.stored)
		for k, place := range l.sentinels() {
			// With a right tag whatever stands there is a sentinel.
			stored[place] = l.changed(place, next)
			holdsBlocks(t, o, stored, l.blocks, k)
			// Without one it is gone, and no block of the file is.
			stored[place] = l.gone(place, k)
			holdsBlocks(t, o, stored, l.blocks, k+1)
		}
	}
}

func TestBlocksAreTheirOwnNumbers(t *testing.T) {
	// Each place is read alone: what is there is the block that stands there, whatever stands elsewhere.
	for _, o := range few()[1:] {
		l := lay(t, o)
		for i := 0; i < len(l.places); i += 1 + len(l.places)/40 {
			stored, want := make([][]byte, len(l.stored)), make([][]byte, len(l.blocks))
			stored[l.places[i]] = l.stored[l.places[i]]
			if i < len(want) {
				want[i] = l.blocks[i]
			}
			holdsBlocks(t, o, stored, want, len(stored)-1)
		}
	}
}

func TestBlocksOfNotSoMany(t *testing.T) {
	for _, o := range few() {
		l := lay(t, o)
		for _, stored := range wrongCounts(l.stored) {
			blocks, gone, err := Blocks(o.master, o.number, o.p, stored)
			if !errors.Is(err, api.ErrForm) || blocks != nil || gone != 0 {
				t.Fatalf("Blocks of %d, with %v = %x, %d, %v", len(stored), o.p, blocks, gone, err)
			}
		}
		for sentinels := range 9 {
			other := o.p
			other.Sentinels = sentinels
			if _, _, err := Blocks(o.master, o.number, other, l.stored); (err == nil) != (sentinels == o.p.Sentinels) {
				t.Fatalf("Blocks of %d, with %v: %v", len(l.stored), other, err)
			}
		}
	}
}

// wrongCounts are lists of fewer blocks, and of more.
func wrongCounts(list [][]byte) [][][]byte {
	n := len(list)
	return [][][]byte{
		nil, {}, list[:1], list[:n-1], list[1:],
		append(copied(list), nil),
		append(copied(list), list[0]),
		append([][]byte{nil}, list...),
		append(copied(list), list...),
		make([][]byte, n-1), make([][]byte, n+1), make([][]byte, 1000),
	}
}

func TestWhenAnObjectIsAskedChangesNothing(t *testing.T) {
	o := few()[1]
	l := lay(t, o)
	l.stored[l.places[3]] = nil
	want, gone := l.blocksOf(l.stored)
	o.p.Spots, o.p.Period, o.p.Patience, o.p.Retries = 12, 10000, 10000, 5
	holdsBlocks(t, o, l.stored, want, gone)
}
