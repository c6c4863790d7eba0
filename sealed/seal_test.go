package sealed

import (
	"bytes"
	"crypto/sha256"
	"encoding/hex"
	"slices"
	"testing"

	"bailee/params"
	"bailee/path"
	"bailee/sha"
)

// known is a file that was sealed elsewhere.
type known struct {
	handed
	count               int
	root, first, last   string
	placeOf0, placeLast int
	all                 string
}

// knownSeals are files that were sealed elsewhere.
func knownSeals() []known {
	counted := func(size int) []byte {
		file := make([]byte, size)
		for i := range file {
			file[i] = byte(i%251 + 1)
		}
		return file
	}
	sevens := make([]byte, 2000)
	for i := range sevens {
		sevens[i] = byte(7 * i)
	}
	return []known{
		{handed{make([]byte, 16), 0, nil, of(0, 0)}, 33, "b14f69eb73809f8a3e1ecaf5b65fc05b8b142bffe57cdbb897eaabc2b8f1a119", "a04b2c6c7b16ab33ab1b4e3023f1160d", "19052274c02ccec59004aaffcc257844", 6, 4, "982b52c9c2095a7e23f99195b9328d5cbbd0146f1ae840503d00279ee6408b1e"},
		{handed{[]byte("sixteen bytes .."), 7, []byte("hello, world"), of(12, 4)}, 38, "9ba722a09d7f576ccd45de6e1aea6b91935d451495d0fee9fab7b07e35765fbc", "1e192a3f0e2967871907f91279972d3e", "ddbe716a0ed177464209d1911880d7a7", 25, 37, "ea0ac61a701bef0a175b268140dc0b691f113f1b110a995721d34c2e77edd2fc"},
		{handed{rising(), 1 << 40, counted(1784), of(1784, 8)}, 263, "4ab2032005339e5ce354d28fc41197bead7ed18b7186b2797443c710b2fc12cb", "d79627b17d5d6bbd161652c4485f23d0", "01758b1b6039f6cee1a4ffe4f3a37b89", 248, 84, "fb74cfd2c75f03276220035d8ad9c832bc8cc8b1e6cace580f8012fec83396e8"},
		{handed{bytes.Repeat([]byte{255}, 32), 1<<40 - 1, counted(1785), of(1785, 1)}, 289, "d40af0a2b3a47a814da7b9c6c06a8556d82dd91a025f4fa3f6be2e62d21ec2d4", "cce403650700b502e29e530050aa3725", "a67f82a0277d535bf63de67ade369ab6", 1, 251, "e0bb1c226d5ba575df4dc2cfbc63ebed8a75557fc07d42f0d88b2d91c2cef1dd"},
		{handed{rising()[:17], 258, sevens, of(2000, 8)}, 322, "d45d484967f2d87a105831238c21417039a2d9c59b44ea34425fdc0423244db2", "7a7be9e44a725cf7b48512b99885bca3", "826c3bdc3dce1558a640f1f53679f352", 50, 32, "5e1d085e5bf1a0640aedc636d45cbbfbe9d41710cfab0c3dbbd60eafbb029e4a"},
	}
}

func TestSealsThatAreKnown(t *testing.T) {
	for _, k := range knownSeals() {
		s, err := Seal(k.master, k.number, k.file, k.p)
		if err != nil || len(s.Stored) != k.count {
			t.Fatalf("Seal of %d bytes: %d blocks, %v", len(k.file), len(s.Stored), err)
		}
		all := sha256.Sum256(slices.Concat(s.Stored...))
		got := []string{sha.Hex(s.Root), hex.EncodeToString(s.Stored[0]), hex.EncodeToString(s.Stored[k.count-1]), hex.EncodeToString(all[:])}
		if !slices.Equal(got, []string{k.root, k.first, k.last, k.all}) {
			t.Errorf("Seal of %d bytes = %v", len(k.file), got)
		}
		first, err := Place(k.master, k.number, k.p, 0)
		last, err2 := Place(k.master, k.number, k.p, k.count-1)
		if err != nil || err2 != nil || first != k.placeOf0 || last != k.placeLast {
			t.Errorf("of %d bytes, the places of the first and last are %d, %d, %v, %v", len(k.file), first, last, err, err2)
		}
	}
}

// seal seals what must be sealed.
func seal(t *testing.T, h handed) Sealed {
	t.Helper()
	s, err := Seal(h.master, h.number, h.file, h.p)
	if err != nil {
		t.Fatalf("Seal(%x, %d, %d bytes, %v): %v", h.master, h.number, len(h.file), h.p, err)
	}
	return s
}

func TestSealByTheDocumentsWords(t *testing.T) {
	for _, h := range sample() {
		s, want := seal(t, h), sealedOf(h.master, h.number, h.file, h.p)
		if !slices.EqualFunc(s.Stored, want.stored, bytes.Equal) {
			t.Fatalf("Seal(%x, %d, %d bytes, %v) stores other blocks", h.master, h.number, len(h.file), h.p)
		}
		if s.Root != rootOf(want.stored) || s.File != sha256.Sum256(h.file) {
			t.Fatalf("Seal(%x, %d, %d bytes, %v) has the digests %x, %x", h.master, h.number, len(h.file), h.p, s.Root, s.File)
		}
		if many, err := params.Stored(h.p); err != nil || len(s.Stored) != many {
			t.Fatalf("Seal(%v) stores %d blocks, not %d: %v", h.p, len(s.Stored), many, err)
		}
	}
}

func TestSealOfEachCountOfSentinels(t *testing.T) {
	for sentinels := range 9 {
		for _, size := range []int{0, 40, 1785} {
			h := handed{message(16, 1), 5, message(size, 2), of(size, sentinels)}
			s, want := seal(t, h), sealedOf(h.master, h.number, h.file, h.p)
			if !slices.EqualFunc(s.Stored, want.stored, bytes.Equal) || s.Root != rootOf(want.stored) {
				t.Fatalf("%d bytes with %d sentinels", size, sentinels)
			}
		}
	}
}

func TestEachPlaceHasOneBlock(t *testing.T) {
	for _, h := range few() {
		s := seal(t, h)
		seen := make([]int, len(s.Stored))
		for i := range s.Stored {
			place, err := Place(h.master, h.number, h.p, i)
			if err != nil || place < 0 || place >= len(seen) {
				t.Fatalf("Place(%v, %d) = %d, %v", h.p, i, place, err)
			}
			seen[place]++
			if back, err := Back(h.master, h.number, h.p, place); err != nil || back != i {
				t.Fatalf("Back(%v, %d) = %d, %v, not %d", h.p, place, back, err, i)
			}
		}
		for place, many := range seen {
			if many != 1 {
				t.Fatalf("of %v, %d blocks stand at place %d", h.p, many, place)
			}
		}
	}
}

func TestWhatStandsThereHasTheRightTagAndAPath(t *testing.T) {
	for _, h := range append(few(), sample()[20:24]...) {
		s := seal(t, h)
		for place, stored := range s.Stored {
			if is, err := Tagged(h.master, h.number, place, stored); err != nil || !is {
				t.Fatalf("of %v, the tag at place %d isn't right: %v", h.p, place, err)
			}
			way, err := path.Make(s.Stored, place)
			if err != nil || path.Check(s.Root, len(s.Stored), place, stored, way) != nil {
				t.Fatalf("of %v, no path to place %d holds: %v", h.p, place, err)
			}
		}
	}
}

func TestNoBlockStandsElsewhere(t *testing.T) {
	// What is stored has a right tag at its own place alone, by its own key and number alone.
	for _, h := range few()[:2] {
		s := seal(t, h)
		for from, stored := range s.Stored {
			for place := range 512 {
				if is, err := Tagged(h.master, h.number, place, stored); err != nil || is != (place == from) {
					t.Fatalf("of %v, what stands at %d is tagged for %d: %t, %v", h.p, from, place, is, err)
				}
			}
			is, err := Tagged(h.master, h.number+1, from, stored)
			other, err2 := Tagged(append(slices.Clone(h.master), 1), h.number, from, stored)
			if is || other || err != nil || err2 != nil {
				t.Fatalf("of %v, what stands at %d is tagged for another number or key: %t, %t", h.p, from, is, other)
			}
		}
	}
}

func TestWhenAnObjectIsAskedChangesNothing(t *testing.T) {
	h := few()[1]
	want := seal(t, h)
	for _, p := range []params.Params{{Size: 12, Sentinels: 4, Spots: 12, Period: 10000, Patience: 10000, Retries: 5}, params.Default(12)} {
		h.p = p
		s := seal(t, h)
		if s.Root != want.Root || s.File != want.File || !slices.EqualFunc(s.Stored, want.Stored, bytes.Equal) {
			t.Fatalf("with %v, what is stored is something else", p)
		}
	}
}

func TestSealIsTheSameEachTime(t *testing.T) {
	for _, h := range few() {
		one, two := seal(t, h), seal(t, h)
		if one.Root != two.Root || one.File != two.File || !slices.EqualFunc(one.Stored, two.Stored, bytes.Equal) {
			t.Fatalf("of %v, what is sealed twice isn't the same", h.p)
		}
	}
}
