package opened

import (
	"bytes"
	"errors"
	"slices"
	"testing"

	"bailee/api"
	"bailee/stripe"
)

// holdsOpen holds that what is stored is opened to the object's file, and how it went.
func holdsOpen(t *testing.T, o object, stored [][]byte, gone int, erased, changed []int) {
	t.Helper()
	file, r, err := Open(o.master, o.number, o.p, stored)
	if err != nil || !bytes.Equal(file, o.file) || r.Gone != gone || !slices.Equal(r.Erased, erased) || !slices.Equal(r.Errors, changed) {
		t.Fatalf("Open of %v = %x, %v, %v, not gone %d, erased %v, changed %v", o.p, file, r, err, gone, erased, changed)
	}
}

// holdsLost holds that what is stored can't be opened.
func holdsLost(t *testing.T, o object, stored [][]byte) {
	t.Helper()
	if file, r, err := Open(o.master, o.number, o.p, stored); !errors.Is(err, api.ErrLost) || file != nil || !noReport(r) {
		t.Fatalf("Open of %v = %x, %v, %v", o.p, file, r, err)
	}
}

func TestWhatWasJustSealedIsOpened(t *testing.T) {
	for _, o := range sample() {
		l := lay(t, o)
		none := make([]int, len(l.groups(t)))
		holdsOpen(t, o, l.stored, 0, none, none)
	}
}

func TestOpenAllThatIsBorne(t *testing.T) {
	for k, o := range few()[:3] {
		l := lay(t, o)
		for e := range 33 {
			for wrong := range (32-e)/2 + 1 {
				if k > 0 && e%4 != 0 && wrong%5 != 0 {
					continue
				}
				next, stored := numbers(uint32(k*9000+e*40+wrong)), copied(l.stored)
				l.harm(stored, some(l.groups(t)[0], e+wrong, next), e, next)
				holdsOpen(t, o, stored, e, []int{e}, []int{wrong})
			}
		}
	}
}

func TestOpenEachGroupForItself(t *testing.T) {
	for k, size := range []int{1784, 1785, 1793, 2000} {
		o := object{message(20, k), k, message(size, k), of(size, 2*k)}
		l := lay(t, o)
		for e := 0; e < 33; e += 4 {
			var erased, changed []int
			next, stored, gone := numbers(uint32(size+e)), copied(l.stored), 0
			for g, group := range l.groups(t) {
				many := e
				if g == 1 {
					many = 32 - e
				}
				wrong := (32 - many) / 2
				l.harm(stored, some(group, many+wrong, next), many, next)
				erased, changed, gone = append(erased, many), append(changed, wrong), gone+many
			}
			for i, place := range l.sentinels() {
				// They are nobody's business but Gone's.
				if i%2 == 0 {
					stored[place], gone = l.gone(place, e+i), gone+1
				} else {
					stored[place] = l.changed(place, next)
				}
			}
			holdsOpen(t, o, stored, gone, erased, changed)
		}
	}
}

func TestOpenOutOfOneBlock(t *testing.T) {
	// Of the 33 blocks of the shortest file one is enough, whichever it is.
	o := object{message(16, 1), 9, []byte("hello"), of(5, 3)}
	l := lay(t, o)
	for _, place := range l.places[:33] {
		stored := make([][]byte, 36)
		stored[place] = l.stored[place]
		holdsOpen(t, o, stored, 35, []int{32}, []int{0})
	}
	for _, place := range l.sentinels() {
		// A sentinel is none of them.
		stored := make([][]byte, 36)
		stored[place] = l.stored[place]
		holdsLost(t, o, stored)
	}
}

func TestOpenIsWhatLayer6Rebuilds(t *testing.T) {
	lost, other := 0, 0
	for k, o := range few() {
		l := lay(t, o)
		for e := range 36 {
			for _, more := range []int{0, 1, 3} {
				if k > 1 && (e+more)%4 != 0 {
					continue
				}
				next, stored := numbers(uint32(k*700+e*9+more)), copied(l.stored)
				for _, group := range l.groups(t) {
					places := some(group, min(e+max(32-e, 0)/2+more, len(group)), next)
					l.harm(stored, places, e, next)
					// One more in one byte alone: so one word decides.
					at := l.places[places[len(places)-1]]
					stored[at] = l.tagged(at, flipped(l.was[at][:8], next()%64))
				}
				blocks, gone := l.blocksOf(stored)
				want, err := stripe.Rebuild(blocks, len(o.file))
				if err != nil {
					holdsLost(t, o, stored)
					lost++
					continue
				}
				file, r, err := Open(o.master, o.number, o.p, stored)
				if err != nil || !bytes.Equal(file, want.File) || r.Gone != gone || !slices.Equal(r.Erased, want.Erased) || !slices.Equal(r.Errors, want.Errors) {
					t.Fatalf("Open of %v = %x, %v, %v, not %v", o.p, file, r, err, want)
				}
				other++
			}
		}
	}
	if lost < 50 || other < 50 {
		t.Fatalf("%d were lost, %d opened", lost, other)
	}
}

func TestOpenWithTooManyGone(t *testing.T) {
	for k, o := range few() {
		l := lay(t, o)
		for _, group := range l.groups(t) {
			for _, many := range []int{33, 34, 100} {
				stored, next := copied(l.stored), numbers(uint32(k))
				l.harm(stored, some(group, min(many, len(group)), next), many, next)
				holdsLost(t, o, stored)
			}
		}
		holdsLost(t, o, make([][]byte, len(l.stored)))
	}
}

func TestOpenByteByByte(t *testing.T) {
	// Each byte's word bears 16 changes for itself: so it is opened, though there is more than Enough tells of.
	o := object{message(16, 1), 4, message(1000, 2), of(1000, 1)}
	l := lay(t, o)
	stored := copied(l.stored)
	for k, i := range some(l.groups(t)[0], 8*16, numbers(5)) {
		block := slices.Clone(stored[l.places[i]][:8])
		block[k%8] ^= byte(k + 1)
		stored[l.places[i]] = l.tagged(l.places[i], block)
	}
	holdsOpen(t, o, stored, 0, []int{0}, []int{128})
	if _, r, err := Open(o.master, o.number, o.p, stored); err != nil || Enough(r) {
		t.Fatalf("of %v, %v there is enough", r, err)
	}
}

func TestOpenByASizeThatWasAnother(t *testing.T) {
	// Ahead of the file's end there are no noughts: what is behind it isn't as it must be.
	o := object{message(16, 1), 4, bytes.Repeat([]byte{7}, 12), of(12, 2)}
	l := lay(t, o)
	for size := 9; size < 12; size++ {
		less := object{o.master, o.number, o.file, of(size, 2)}
		holdsLost(t, less, l.stored)
	}
	for size := 12; size <= 16; size++ {
		more := object{o.master, o.number, append(slices.Clone(o.file), make([]byte, size-12)...), of(size, 2)}
		holdsOpen(t, more, l.stored, 0, []int{0}, []int{0})
	}
}

func TestWhatIsOpenedAsBorneIsEnough(t *testing.T) {
	for k, o := range few() {
		l := lay(t, o)
		for e := 0; e < 33; e += 8 {
			stored, next := copied(l.stored), numbers(uint32(k+e))
			for _, group := range l.groups(t) {
				l.harm(stored, some(group, e+(32-e)/2, next), e, next)
			}
			if _, r, err := Open(o.master, o.number, o.p, stored); err != nil || !Enough(r) {
				t.Fatalf("of %v, %v there isn't enough", r, err)
			}
		}
	}
}

func TestOpenOfNotSoMany(t *testing.T) {
	o := few()[1]
	l := lay(t, o)
	for _, stored := range wrongCounts(l.stored) {
		if file, r, err := Open(o.master, o.number, o.p, stored); !errors.Is(err, api.ErrForm) || file != nil || !noReport(r) {
			t.Fatalf("Open of %d blocks = %x, %v, %v", len(stored), file, r, err)
		}
		if file, err := Restore(o.master, o.number, o.p, stored, [32]byte{}); !errors.Is(err, api.ErrForm) || file != nil {
			t.Fatalf("Restore of %d blocks = %x, %v", len(stored), file, err)
		}
	}
}
