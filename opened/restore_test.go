package opened

import (
	"bytes"
	"crypto/sha256"
	"errors"
	"slices"
	"testing"

	"bailee/api"
	"bailee/sha"
)

// holdsRestored holds that what is stored is restored to a file.
func holdsRestored(t *testing.T, o object, stored [][]byte, file []byte) {
	t.Helper()
	got, err := Restore(o.master, o.number, o.p, stored, sha256.Sum256(file))
	if err != nil || !bytes.Equal(got, file) {
		t.Fatalf("Restore of %v = %x, %v, not %x", o.p, got, err, file)
	}
}

// holdsRefused holds that nothing is restored.
func holdsRefused(t *testing.T, o object, stored [][]byte, digest sha.Digest, want error) {
	t.Helper()
	if got, err := Restore(o.master, o.number, o.p, stored, digest); !errors.Is(err, want) || got != nil {
		t.Fatalf("Restore of %v = %x, %v, not %v", o.p, got, err, want)
	}
}

func TestRestoreWhatWasSealed(t *testing.T) {
	for k, o := range sample() {
		l := lay(t, o)
		next := numbers(uint32(k))
		for _, group := range l.groups(t) {
			e := next() % 33
			l.harm(l.stored, some(group, e+(32-e)/2, next), e, next)
		}
		holdsRestored(t, o, l.stored, o.file)
	}
}

func TestRestoreByAnotherDigest(t *testing.T) {
	o := few()[1]
	l := lay(t, o)
	right := sha256.Sum256(o.file)
	for bit := range 256 {
		holdsRefused(t, o, l.stored, sha.Digest(flipped(right[:], bit)), api.ErrSum)
	}
	holdsRefused(t, o, l.stored, sha.Digest{}, api.ErrSum)
	holdsRefused(t, o, l.stored, sha256.Sum256(nil), api.ErrSum)
	holdsRefused(t, o, l.stored, sha256.Sum256(o.file[:11]), api.ErrSum)
	holdsRefused(t, o, l.stored, sha256.Sum256(append(slices.Clone(o.file), 0)), api.ErrSum)
}

func TestRestoreByTheDigestOfAFileWithNoughtsBehindIt(t *testing.T) {
	o := object{message(16, 1), 4, bytes.Repeat([]byte{7}, 12), of(13, 2)}
	l := lay(t, object{o.master, o.number, o.file, of(12, 2)})
	holdsRefused(t, o, l.stored, sha256.Sum256(o.file), api.ErrSum)
	holdsRestored(t, o, l.stored, append(slices.Clone(o.file), 0))
}

func TestRestoreOfAnotherFileByTheSameKeys(t *testing.T) {
	// Whoever has the keys can lay another file there, all of it with right tags: its digest tells.
	for _, o := range few()[1:] {
		other := object{o.master, o.number, message(len(o.file), 77), o.p}
		l, m := lay(t, o), lay(t, other)
		for _, wrong := range []int{0, 1, 16, 17, 33, len(l.stored)} {
			stored := copied(l.stored)
			for _, i := range some(upTo(len(l.blocks)), min(wrong, len(l.blocks)), numbers(uint32(wrong))) {
				stored[l.places[i]] = m.stored[l.places[i]]
			}
			file, _, err := Open(o.master, o.number, o.p, stored)
			switch {
			case err != nil:
				holdsRefused(t, o, stored, sha256.Sum256(o.file), api.ErrLost)
			case bytes.Equal(file, o.file):
				holdsRestored(t, o, stored, o.file)
				holdsRefused(t, o, stored, sha256.Sum256(other.file), api.ErrSum)
			default:
				holdsRestored(t, o, stored, file)
				holdsRefused(t, o, stored, sha256.Sum256(o.file), api.ErrSum)
			}
		}
		holdsRefused(t, o, m.stored, sha256.Sum256(o.file), api.ErrSum)
		holdsRestored(t, o, m.stored, other.file)
	}
}

func TestRestoreNeverAnswersAnotherFile(t *testing.T) {
	lost, wrong, right := 0, 0, 0
	for k := range 12 {
		o := object{message(16, k), k, message(k, k), of(k, k%9)}
		other := lay(t, object{o.master, o.number, message(k, k+50), o.p})
		l, next := lay(t, o), numbers(uint32(k))
		for many := 0; many < 60; many += 2 {
			stored := copied(l.stored)
			for range many {
				place := next() % len(stored)
				switch next() % 8 {
				case 0:
					stored[place] = l.gone(place, next())
				case 1:
					stored[place] = l.changed(place, next)
				default:
					stored[place] = other.stored[place]
				}
			}
			file, err := Restore(o.master, o.number, o.p, stored, sha256.Sum256(o.file))
			switch {
			case err == nil && bytes.Equal(file, o.file):
				right++
			case errors.Is(err, api.ErrSum) && file == nil:
				wrong++
			case errors.Is(err, api.ErrLost) && file == nil:
				lost++
			default:
				t.Fatalf("Restore of %v = %x, %v", o.p, file, err)
			}
		}
	}
	if lost < 20 || wrong < 20 || right < 20 {
		t.Fatalf("%d were lost, %d other files, %d restored", lost, wrong, right)
	}
}

func TestRestoreOfWhatIsLost(t *testing.T) {
	for _, o := range few() {
		l := lay(t, o)
		holdsRefused(t, o, make([][]byte, len(l.stored)), sha256.Sum256(o.file), api.ErrLost)
		holdsRefused(t, o, make([][]byte, len(l.stored)), sha.Digest{}, api.ErrLost)
	}
}
