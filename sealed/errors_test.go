package sealed

import (
	"bytes"
	"errors"
	"slices"
	"testing"

	"bailee/api"
	"bailee/params"
	"bailee/sha"
)

// someMasters are master keys, and what are none.
func someMasters() [][]byte {
	list := [][]byte{nil, {}, message(1000, 1)}
	for _, size := range []int{1, 15, 16, 17, 32, 63, 64, 65, 128} {
		list = append(list, message(size, 1), message(200, 2)[:size])
	}
	return list
}

// someNumbers are numbers of objects, and what are none.
func someNumbers() []int { return append(far(), 0, 1, 7, maxNumber-1, maxNumber, maxNumber+1) }

// someParams are parameters that are right, and some of which a field, or more than one, isn't.
func someParams() []params.Params {
	return []params.Params{
		of(12, 4), of(0, 0), of(12, 0),
		of(-1, 0), of(2001, 0), of(12, -1), of(12, 9), of(2001, 9), of(-1, -1),
		{}, {Size: 12, Spots: 13, Period: 1, Patience: 1}, {Size: 12, Spots: 1}, {Size: 12, Spots: 1, Period: 2, Patience: 3},
		{Size: 12, Spots: 1, Period: 1, Patience: 1, Retries: 6}, {Size: 12, Spots: 1, Period: 10001, Patience: 1},
	}
}

// keyFault is layer 9's error, by the document's words.
func keyFault(master []byte, number int) error {
	switch {
	case len(master) < 16 || len(master) > 64:
		return api.ErrKey
	case number < 0 || number > maxNumber:
		return api.ErrRange
	}
	return nil
}

// first is the first of faults that there is.
func first(faults ...error) error {
	for _, fault := range faults {
		if fault != nil {
			return fault
		}
	}
	return nil
}

// when is an error, if something is so.
func when(is bool, err error) error {
	if is {
		return err
	}
	return nil
}

// holdsFault holds that an error is the one that is wanted, with its field and value, if it has these.
func holdsFault(t *testing.T, what string, got, want error) {
	t.Helper()
	if want == nil {
		if got != nil {
			t.Fatalf("%s: %v", what, got)
		}
		return
	}
	var wrong, told *params.Wrong
	if errors.As(want, &wrong) {
		if !errors.As(got, &told) || *told != *wrong {
			t.Fatalf("%s: %v, not %v", what, got, want)
		}
		return
	}
	if errors.As(got, &told) || !errors.Is(got, want) {
		t.Fatalf("%s: %v, not %v", what, got, want)
	}
}

// each goes through all masters, numbers and parameters.
func each(do func(master []byte, number int, p params.Params)) {
	for _, master := range someMasters() {
		for _, number := range someNumbers() {
			for _, p := range someParams() {
				do(master, number, p)
			}
		}
	}
}

// nothing tells whether nothing was sealed.
func nothing(s Sealed) bool {
	return s.Stored == nil && s.Root == sha.Digest{} && s.File == sha.Digest{}
}

func TestSealsErrorsInTheirOrder(t *testing.T) {
	files := [][]byte{nil, {}, message(1, 1), message(11, 1), message(12, 1), message(13, 1), message(24, 1)[:12], message(2001, 1)}
	each(func(master []byte, number int, p params.Params) {
		for _, file := range files {
			want := first(params.Check(p), when(len(file) != p.Size, api.ErrSize), keyFault(master, number))
			if want == nil && number%7 != 0 {
				continue
			}
			s, err := Seal(master, number, file, p)
			holdsFault(t, "Seal", err, want)
			if nothing(s) != (want != nil) {
				t.Fatalf("Seal(%v) = %v, %v", p, s, err)
			}
		}
	})
}

func TestPlacesErrorsInTheirOrder(t *testing.T) {
	each(func(master []byte, number int, p params.Params) {
		for _, i := range []int{-1, 0, 32, 33, 34, 37, 38, 512} {
			stored := len(blocksOf(make([]byte, max(p.Size, 0)))) + p.Sentinels
			want := first(params.Check(p), keyFault(master, number), when(i < 0 || i >= stored, api.ErrRange))
			place, err := Place(master, number, p, i)
			holdsFault(t, "Place", err, want)
			back, err2 := Back(master, number, p, i)
			holdsFault(t, "Back", err2, want)
			if want != nil && (place != 0 || back != 0) {
				t.Fatalf("beside an error, Place is %d, Back %d", place, back)
			}
		}
	})
}

func TestSentinelsErrorsInTheirOrder(t *testing.T) {
	each(func(master []byte, number int, p params.Params) {
		for _, j := range []int{-1, 0, 3, 4, 8} {
			want := first(params.Check(p), keyFault(master, number), when(j < 0 || j >= p.Sentinels, api.ErrBudget))
			place, stored, err := Sentinel(master, number, p, j)
			holdsFault(t, "Sentinel", err, want)
			if want != nil && (place != 0 || stored != nil) || want == nil && len(stored) != 16 {
				t.Fatalf("Sentinel(%v, %d) = %d, %x, %v", p, j, place, stored, err)
			}
		}
	})
}

func TestTagsErrorsInTheirOrder(t *testing.T) {
	for _, master := range someMasters() {
		for _, number := range someNumbers() {
			for _, place := range []int{-1 << 63, -1, 0, 511, 512} {
				for _, block := range [][]byte{nil, message(7, 1), message(8, 1), message(9, 1), message(16, 1)} {
					want := first(keyFault(master, number), when(place < 0 || place > 511, api.ErrRange), when(len(block) != 8, api.ErrSize))
					got, err := Tag(master, number, place, block)
					holdsFault(t, "Tag", err, want)
					if (got == nil) != (want != nil) {
						t.Fatalf("Tag(%d, %x) = %x, %v", place, block, got, err)
					}
					is, err := Tagged(master, number, place, block)
					holdsFault(t, "Tagged", err, keyFault(master, number))
					if is {
						t.Fatalf("Tagged(%d, %x) = %t", place, block, is)
					}
				}
			}
		}
	}
}

func TestTaggedByNoKeyIsFalse(t *testing.T) {
	// Even where the mac by such a key would be right.
	for _, master := range someMasters() {
		block := message(8, 1)
		stored := slices.Concat(block, tagOf(master, 3, 5, block))
		is, err := Tagged(master, 3, 5, stored)
		holdsFault(t, "Tagged", err, keyFault(master, 3))
		if is != (err == nil) {
			t.Fatalf("by a key of %d bytes: %t, %v", len(master), is, err)
		}
	}
	stored := slices.Concat(message(8, 1), tagOf(message(16, 1), maxNumber+1, 5, message(8, 1)))
	if is, err := Tagged(message(16, 1), maxNumber+1, 5, stored); is || !errors.Is(err, api.ErrRange) {
		t.Fatalf("for a number that is none: %t, %v", is, err)
	}
}

// spoil writes over a list, and the room behind it.
func spoil(list []byte) {
	for i := range list[:cap(list)] {
		list[:cap(list)][i] += 101
	}
}

// roomy is a list with more behind it, all of it told.
func roomy(list []byte) []byte { return slices.Concat(list, bytes.Repeat([]byte{123}, 100)) }

func TestNothingGivenIsChanged(t *testing.T) {
	for _, size := range []int{0, 5, 12, 16, 1785} {
		p := of(size, 3)
		for _, length := range []int{3, 16, 64} {
			given := [][]byte{roomy(message(length, 1)), roomy(message(size, 2)), roomy(message(8, 3)), roomy(message(16, 4))}
			was := [][]byte{bytes.Clone(given[0]), bytes.Clone(given[1]), bytes.Clone(given[2]), bytes.Clone(given[3])}
			master, file, block, stored := given[0][:length], given[1][:size], given[2][:8], given[3][:16]
			for _, number := range []int{-1, 0, 9} {
				Seal(master, number, file, p)
				Seal(master, number, file, of(size+1, 3))
				Place(master, number, p, 4)
				Back(master, number, p, 4)
				Sentinel(master, number, p, 2)
				Sentinel(master, number, p, 3)
				Tagged(master, number, 4, stored)
				Tagged(master, number, 4, block)
				Tag(master, number, 4, block)
				Tag(master, number, 4, stored)
			}
			Parts(stored)
			Parts(block)
			if !slices.EqualFunc(given, was, bytes.Equal) {
				t.Fatalf("of %d bytes, by a key of %d, something given, or the room behind it, was changed", size, length)
			}
		}
	}
}

func TestAnswersAreTheCallersAlone(t *testing.T) {
	for _, h := range few() {
		master, file := bytes.Clone(h.master), bytes.Clone(h.file)
		s := seal(t, handed{master, h.number, file, h.p})
		spoil(master)
		spoil(file)
		want := sealedOf(h.master, h.number, h.file, h.p)
		for place := range s.Stored {
			// What was written over ahead of it left this one as it was.
			if !bytes.Equal(s.Stored[place], want.stored[place]) {
				t.Fatalf("of %v, what stands at %d was changed", h.p, place)
			}
			spoil(s.Stored[place])
		}
		if again := seal(t, h); !slices.EqualFunc(again.Stored, want.stored, bytes.Equal) {
			t.Fatalf("of %v, writing over what was sealed changed what is", h.p)
		}
	}
}

func TestTagsAndPartsAreTheCallersAlone(t *testing.T) {
	master, block := message(16, 1), message(8, 2)
	want := slices.Concat(message(8, 2), tagOf(master, 3, 5, block))
	stored, err := Tag(master, 3, 5, block)
	spoil(block)
	if err != nil || !bytes.Equal(stored, want) {
		t.Fatalf("Tag = %x, %v, not %x", stored, err, want)
	}
	one, two, err := Parts(stored)
	spoil(stored)
	if err != nil || !bytes.Equal(one, want[:8]) || !bytes.Equal(two, want[8:]) {
		t.Fatalf("writing over what was stored changed its parts: %x, %x, %v", one, two, err)
	}
	spoil(one)
	if !bytes.Equal(two, want[8:]) {
		t.Fatal("writing over the block changed the tag")
	}
	_, sentinel, err := Sentinel(master, 3, of(9, 1), 0)
	spoil(sentinel)
	place, again, err2 := Sentinel(master, 3, of(9, 1), 0)
	if is, err3 := Tagged(master, 3, place, again); err != nil || err2 != nil || err3 != nil || !is {
		t.Fatal("writing over a sentinel changed what is answered then")
	}
}
