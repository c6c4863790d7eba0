package params

import (
	"bytes"
	"encoding/hex"
	"testing"

	"bailee/api"
)

func TestBytesThatAreKnown(t *testing.T) {
	cases := []struct {
		p    Params
		want string
	}{
		{Default(100), "006404040014000402"},
		{Default(0), "000004040014000402"},
		{Params{0, 0, 1, 1, 1, 0}, "000000010001000100"},
		{Params{2000, 8, 12, 10000, 10000, 5}, "07d0080c2710271005"},
		{Params{258, 3, 5, 1027, 770, 1}, "010203050403030201"},
		{Params{255, 1, 2, 256, 255, 3}, "00ff0102010000ff03"},
	}
	for _, c := range cases {
		b, err := Bytes(c.p)
		if err != nil || hex.EncodeToString(b) != c.want {
			t.Errorf("Bytes(%v) = %x, %v, not %s", c.p, b, err, c.want)
		}
		want, _ := hex.DecodeString(c.want)
		if p, err := Parse(want); err != nil || p != c.p {
			t.Errorf("Parse(%s) = %v, %v, not %v", c.want, p, err, c.p)
		}
	}
}

func TestBytesByTheDocumentsWordsAndBack(t *testing.T) {
	for p := range sample() {
		b, err := Bytes(p)
		if i := firstWrong(p); i >= 0 {
			holdsWrong(t, "Bytes", err, p, i)
			if b != nil {
				t.Fatalf("Bytes(%v) = %x beside an error", p, b)
			}
			continue
		}
		holdsBack(t, p, b, err)
	}
}

// holdsBack holds that these are the bytes of parameters, and that they are parsed as they were.
func holdsBack(t *testing.T, p Params, b []byte, err error) {
	t.Helper()
	if err != nil || !bytes.Equal(b, bytesOf(p)) {
		t.Fatalf("Bytes(%v) = %x, %v, not %x", p, b, err, bytesOf(p))
	}
	if back, err := Parse(b); err != nil || back != p {
		t.Fatalf("Parse(%x) = %v, %v, not %v", b, back, err, p)
	}
}

// eachValue yields right parameters with each value of each field.
func eachValue(yield func(Params) bool) {
	most := [6]int{2000, 8, 12, 10000, 10000, 5}
	for _, base := range rights() {
		for i := range most {
			for value := range most[i] + 1 {
				if p := with(base, i, value); firstWrong(p) < 0 && !yield(p) {
					return
				}
			}
		}
	}
}

func TestEachValueHasBytesAndIsParsed(t *testing.T) {
	for p := range eachValue {
		b, err := Bytes(p)
		holdsBack(t, p, b, err)
	}
}

func TestParametersThatAreNotTheSameHaveOtherBytes(t *testing.T) {
	seen := map[[9]byte]Params{}
	hold := func(p Params) {
		b, err := Bytes(p)
		if err != nil {
			t.Fatalf("Bytes(%v): %v", p, err)
		}
		if other, is := seen[[9]byte(b)]; is && other != p {
			t.Fatalf("%v and %v have both %x", p, other, b)
		}
		seen[[9]byte(b)] = p
	}
	for p := range eachValue {
		hold(p)
	}
	for p := range sample() {
		if firstWrong(p) < 0 {
			hold(p)
		}
	}
	if len(seen) < 50000 {
		t.Fatalf("there were no more than %d", len(seen))
	}
}

func TestParseOfNotNineBytes(t *testing.T) {
	whole := bytes.Repeat(bytesOf(Default(100)), 500)
	for _, many := range []int{0, 1, 2, 3, 4, 5, 6, 7, 8, 10, 11, 12, 16, 18, 27, 9 + 256, 4500} {
		// There is more behind: it isn't theirs.
		for _, b := range [][]byte{whole[:many], make([]byte, many), bytes.Repeat([]byte{255}, many)} {
			if p, err := Parse(b); err != api.ErrSize || p != (Params{}) {
				t.Errorf("Parse of %d bytes = %v, %v", many, p, err)
			}
		}
	}
	if p, err := Parse(nil); err != api.ErrSize || p != (Params{}) {
		t.Errorf("Parse(nil) = %v, %v", p, err)
	}
	if p, err := Parse(whole[:9]); err != nil || p != Default(100) {
		t.Errorf("Parse with room behind = %v, %v", p, err)
	}
}

func TestParseOfEachByte(t *testing.T) {
	for _, base := range rights() {
		for one := range 9 {
			for two := one; two < 9; two++ {
				for value := range 256 {
					b := bytesOf(base)
					b[one], b[two] = byte(value), byte(value*7+5)
					holdsParsed(t, b)
				}
			}
		}
	}
	holdsParsed(t, make([]byte, 9))
	holdsParsed(t, bytes.Repeat([]byte{255}, 9))
}

// holdsParsed holds what nine bytes are parsed as against the chapter's words; what is right has just these bytes.
func holdsParsed(t *testing.T, b []byte) {
	t.Helper()
	p, err := Parse(b)
	told := fromBytes(b)
	if i := firstWrong(told); i >= 0 {
		holdsWrong(t, "Parse", err, told, i)
		if p != (Params{}) {
			t.Fatalf("Parse(%x) = %v beside an error", b, p)
		}
		return
	}
	if err != nil || p != told {
		t.Fatalf("Parse(%x) = %v, %v, not %v", b, p, err, told)
	}
	if back, err := Bytes(p); err != nil || !bytes.Equal(back, b) {
		t.Fatalf("Bytes(%v) = %x, %v, not %x", p, back, err, b)
	}
}

func TestNothingGivenIsChanged(t *testing.T) {
	for _, first := range [][]byte{nil, {1}, bytesOf(Default(100)), bytesOf(rights()[2]), bytesOf(Params{}), make([]byte, 20)} {
		whole := append(bytes.Clone(first), 1, 2, 3, 4, 5, 6, 7, 8, 9, 10)
		was := bytes.Clone(whole)
		Parse(whole[:len(first)])
		if !bytes.Equal(whole, was) {
			t.Errorf("%x, or the room behind it, was changed to %x", was, whole)
		}
	}
}

func TestAnswersAreTheCallersAlone(t *testing.T) {
	for _, p := range rights() {
		b, err := Bytes(p)
		if err != nil {
			t.Fatal(err)
		}
		again, _ := Bytes(p)
		back, _ := Parse(b)
		for i := range b[:cap(b)] {
			b[:cap(b)][i] ^= 0xff
		}
		if back != p || !bytes.Equal(again, bytesOf(p)) {
			t.Fatalf("writing over the bytes of %v changed others", p)
		}
		third, err := Bytes(p)
		holdsBack(t, p, third, err)
	}
	// So is the error.
	p := Default(-1)
	first, second := Check(p).(*Wrong), Check(p)
	*first = Wrong{"other", 3, api.ErrKey}
	holdsWrong(t, "Check", second, p, 0)
	holdsWrong(t, "Check", Check(p), p, 0)
}
