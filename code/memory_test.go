package code

import (
	"bytes"
	"slices"
	"testing"
)

// roomy is a list with more behind it, all of it told.
func roomy(list []byte) []byte {
	return append(append(make([]byte, 0, len(list)+40), list...), bytes.Repeat([]byte{123}, 40)...)
}

// calls makes each answer that is a list of bytes, of a list that is taken as data and as a word.
func calls(list []byte) [][]byte {
	parity, _ := Parity(list)
	word, _ := Encode(list)
	data, _ := Data(list)
	s, _ := Of(list)
	return [][]byte{Generator(), parity, word, data, s.Poly()}
}

func TestNothingGivenIsChanged(t *testing.T) {
	for _, n := range append(someLengths(), 34, 224, 255, 256) {
		for _, list := range samples(n) {
			room := roomy(list)
			calls(room[:n])
			Right(room[:n])
			Differ(room[:n], room[1:n+1])
			if !bytes.Equal(room, roomy(list)) {
				t.Fatalf("%v, or the room behind it, became %v", list, room)
			}
		}
	}
}

func TestAnswersAreTheCallersAlone(t *testing.T) {
	for _, n := range append(someLengths(), 34, 224, 255) {
		for _, list := range samples(n) {
			room := roomy(list)
			want := calls(list)
			answers := calls(room[:n])
			for i, answer := range answers {
				if !bytes.Equal(answer, want[i]) {
					t.Fatalf("answer %d of %v became %v, not %v", i, list, answer, want[i])
				}
				for j := range answer[:cap(answer)] {
					answer[:cap(answer)][j] ^= 255
				}
			}
			if !bytes.Equal(room, roomy(list)) {
				t.Fatalf("writing over answers changed %v", list)
			}
			for i, answer := range calls(room[:n]) {
				if !bytes.Equal(answer, want[i]) {
					t.Fatalf("writing over answers changed answer %d of %v to %v", i, list, answer)
				}
			}
		}
	}
}

func TestPolyIsNoPieceOfItsSyndromes(t *testing.T) {
	s := Syndromes{1, 2, 3}
	p := s.Poly()
	p[0] = 9
	if s != (Syndromes{1, 2, 3}) || !slices.Equal(s.Poly(), []byte{1, 2, 3}) {
		t.Fatalf("writing over a polynomial changed its syndromes to %v", s)
	}
}
