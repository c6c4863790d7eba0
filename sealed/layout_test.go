package sealed

import (
	"bytes"
	"slices"
	"testing"

	"bailee/api"
)

func TestPlaceAndBackByTheDocumentsWords(t *testing.T) {
	for _, h := range few() {
		want := sealedOf(h.master, h.number, h.file, h.p)
		for i, place := range want.places {
			if got, err := Place(h.master, h.number, h.p, i); err != nil || got != place {
				t.Fatalf("Place(%v, %d) = %d, %v, not %d", h.p, i, got, err, place)
			}
			if got, err := Back(h.master, h.number, h.p, place); err != nil || got != i {
				t.Fatalf("Back(%v, %d) = %d, %v, not %d", h.p, place, got, err, i)
			}
		}
	}
}

func TestPlaceAndBackOfNoBlock(t *testing.T) {
	for _, h := range few() {
		n := len(sealedOf(h.master, h.number, h.file, h.p).stored)
		for _, i := range append(far(), n, n+1, n+32, 511, 512, 2*n) {
			if got, err := Place(h.master, h.number, h.p, i); err != api.ErrRange || got != 0 {
				t.Fatalf("Place(%v, %d) = %d, %v", h.p, i, got, err)
			}
			if got, err := Back(h.master, h.number, h.p, i); err != api.ErrRange || got != 0 {
				t.Fatalf("Back(%v, %d) = %d, %v", h.p, i, got, err)
			}
		}
	}
}

func TestSentinelByTheDocumentsWords(t *testing.T) {
	for _, h := range sample() {
		want := sealedOf(h.master, h.number, h.file, h.p)
		for j := range h.p.Sentinels {
			place, stored, err := Sentinel(h.master, h.number, h.p, j)
			if err != nil || place != want.places[want.plain+j] || !bytes.Equal(stored, want.stored[place]) {
				t.Fatalf("Sentinel(%v, %d) = %d, %x, %v", h.p, j, place, stored, err)
			}
		}
	}
}

func TestSentinelIsWhatWasSealedThere(t *testing.T) {
	for _, h := range few() {
		s := seal(t, h)
		for j := range h.p.Sentinels {
			place, stored, err := Sentinel(h.master, h.number, h.p, j)
			if err != nil || !bytes.Equal(stored, s.Stored[place]) {
				t.Fatalf("Sentinel(%v, %d) = %d, %x, %v", h.p, j, place, stored, err)
			}
			if i, err := Back(h.master, h.number, h.p, place); err != nil || i != len(s.Stored)-h.p.Sentinels+j {
				t.Fatalf("of %v, sentinel %d has number %d, %v", h.p, j, i, err)
			}
			if is, err := Tagged(h.master, h.number, place, stored); err != nil || !is {
				t.Fatalf("of %v, sentinel %d has no right tag: %v", h.p, j, err)
			}
		}
	}
}

func TestSentinelBeyondTheBudget(t *testing.T) {
	for sentinels := range 9 {
		p := of(100, sentinels)
		for _, j := range append(far(), sentinels, sentinels+1, 8, 9, -45, 45, 49) {
			place, stored, err := Sentinel(message(16, 1), 3, p, j)
			if err != api.ErrBudget || place != 0 || stored != nil {
				t.Fatalf("Sentinel %d of %d = %d, %x, %v", j, sentinels, place, stored, err)
			}
		}
		for j := range sentinels {
			if _, _, err := Sentinel(message(16, 1), 3, p, j); err != nil {
				t.Fatalf("Sentinel %d of %d: %v", j, sentinels, err)
			}
		}
	}
}

func TestSentinelsAreNotTheSame(t *testing.T) {
	var seen [][]byte
	for _, h := range few() {
		for j := range h.p.Sentinels {
			_, stored, err := Sentinel(h.master, h.number, h.p, j)
			if err != nil || slices.ContainsFunc(seen, func(b []byte) bool { return bytes.Equal(b[:8], stored[:8]) }) {
				t.Fatalf("of %v, sentinel %d was there already: %x, %v", h.p, j, stored, err)
			}
			seen = append(seen, stored)
		}
	}
}
