package repair

import (
	"bytes"
	"errors"
	"math"
	"slices"
	"testing"

	"bailee/api"
	"bailee/code"
	"bailee/field"
)

// others are how many places two words of one length differ at that aren't erased.
func others(a, b []byte, erased []int) int {
	count := 0
	for i := range a {
		if a[i] != b[i] && !slices.Contains(erased, i) {
			count++
		}
	}
	return count
}

// differ are the places at which two words of one length differ, rising.
func differ(a, b []byte) []int {
	var places []int
	for i := range a {
		if a[i] != b[i] {
			places = append(places, i)
		}
	}
	return places
}

// repaired holds an answer against what the word must be repaired to.
func repaired(t *testing.T, word []byte, erased []int, want []byte) {
	t.Helper()
	got, err := Fix(word, erased)
	if err != nil || !bytes.Equal(got.Word, want) || !slices.Equal(got.Places, differ(word, want)) || got.Errors != others(word, want, erased) {
		t.Fatalf("Fix(%v, %v) = %v, %v, not %v", word, erased, got, err, want)
	}
}

// refused holds that there is an error, and zero values beside it.
func refused(t *testing.T, word []byte, erased []int, want error) {
	t.Helper()
	got, err := Fix(word, erased)
	if !errors.Is(err, want) || len(got.Word) != 0 || len(got.Places) != 0 || got.Errors != 0 {
		t.Fatalf("Fix(%v, %v) = %v, %v, not %v", word, erased, got, err, want)
	}
}

// nearest is, of all code words of one length, that which a word is repaired to; nil, if there is none.
func nearest(all [][]byte, word []byte, erased []int) []byte {
	var told [255]bool
	for _, place := range erased {
		told[place] = true
	}
	most := (api.Parity - len(erased)) / 2
	for _, right := range all {
		count := 0
		for i := 0; i < len(word) && count <= most; i++ {
			if word[i] != right[i] && !told[i] {
				count++
			}
		}
		if count <= most {
			return right
		}
	}
	return nil
}

// asked holds an answer against all code words of that length.
func asked(t *testing.T, all [][]byte, word []byte, erased []int) bool {
	t.Helper()
	want := nearest(all, word, erased)
	if want == nil {
		refused(t, word, erased, api.ErrLost)
		return false
	}
	repaired(t, word, erased, want)
	return true
}

// shortest are all code words of 33 symbols.
func shortest(t *testing.T) [][]byte {
	var all [][]byte
	for a := range 256 {
		all = append(all, encoded(t, []byte{byte(a)}))
	}
	return all
}

func TestFixAmongAllCodeWordsOf33Symbols(t *testing.T) {
	all, count := shortest(t), [2]int{}
	for e := range 33 {
		next := numbers(uint32(e))
		for round := range 120 {
			places := some(33, 33, next)
			word := listOf(33, next)
			if round > 5 {
				// Up to a few places more than what is borne, some of them erased.
				word = changed(codeWord(t, 33, next), places[next()%(e+1):min(e+next()%((32-e)/2+4), 33)], next)
			}
			if asked(t, all, word, places[:e]) {
				count[0]++
			} else {
				count[1]++
			}
		}
	}
	if count[0] < 1000 || count[1] < 300 {
		t.Fatalf("%d words were repaired, %d lost", count[0], count[1])
	}
}

func TestFixAmongAllCodeWordsOf34Symbols(t *testing.T) {
	var all [][]byte
	for a := range 1 << 16 {
		all = append(all, encoded(t, []byte{byte(a), byte(a >> 8)}))
	}
	lost := 0
	for e := range 33 {
		next := numbers(uint32(e + 500))
		for more := range 4 {
			places := some(34, 34, next)
			word := changed(codeWord(t, 34, next), places[:min(e+(32-e)/2+more, 34)], next)
			if !asked(t, all, word, places[:e]) {
				lost++
			}
		}
	}
	if lost < 30 {
		t.Fatalf("only %d words were lost", lost)
	}
}

func TestFixEachSymbolOfAWord(t *testing.T) {
	word := encoded(t, []byte{1, 2, 3})
	for place := range word {
		for by := range 255 {
			wrong := slices.Clone(word)
			wrong[place] ^= byte(by + 1)
			got, err := Fix(wrong, nil)
			if err != nil || !bytes.Equal(got.Word, word) || !slices.Equal(got.Places, []int{place}) || got.Errors != 1 {
				t.Fatalf("%d more at %d: %v, %v", by+1, place, got, err)
			}
			got, err = Fix(wrong, []int{place})
			if err != nil || !bytes.Equal(got.Word, word) || !slices.Equal(got.Places, []int{place}) || got.Errors != 0 {
				t.Fatalf("%d more at %d, which is erased: %v, %v", by+1, place, got, err)
			}
		}
	}
}

func TestFixAllThatIsBorne(t *testing.T) {
	for _, n := range lengths() {
		for e := range 33 {
			for wrong := range (32-e)/2 + 1 {
				next := numbers(uint32(n*10000 + e*100 + wrong))
				word, places := codeWord(t, n, next), some(n, e+wrong, next)
				repaired(t, changed(word, places, next), places[:e], word)
				// Some of the erased places are right, or all of them.
				repaired(t, changed(word, places[e/2:], next), places[:e], word)
				repaired(t, changed(word, places[e:], next), places[:e], word)
			}
		}
	}
}

func TestFixEachLength(t *testing.T) {
	for n := 33; n <= 255; n++ {
		for _, e := range []int{0, 1, 16, 31, 32} {
			next := numbers(uint32(n*40 + e))
			word, places := codeWord(t, n, next), some(n, e+(32-e)/2, next)
			repaired(t, changed(word, places, next), places[:e], word)
		}
	}
}

func TestFixPlacesSideBySide(t *testing.T) {
	for _, n := range lengths() {
		for first := range n - 31 {
			next := numbers(uint32(first))
			word, run := codeWord(t, n, next), upTo(n)[first:first+32]
			repaired(t, changed(word, run, next), run, word)
			repaired(t, changed(word, run[:16], next), nil, word)
			repaired(t, changed(word, run[:20], next), run[6:14], word)
		}
	}
}

func TestFixCodeWords(t *testing.T) {
	for _, n := range lengths() {
		for e := range 33 {
			next := numbers(uint32(n + e))
			for _, word := range [][]byte{make([]byte, n), codeWord(t, n, next)} {
				got, err := Fix(word, some(n, e, next))
				if err != nil || !bytes.Equal(got.Word, word) || len(got.Places) != 0 || got.Errors != 0 {
					t.Fatalf("a code word of %d symbols, %d erased: %v, %v", n, e, got, err)
				}
			}
		}
	}
}

func TestFixedAreCodeWordsThatDifferInNoMoreThanTheyMay(t *testing.T) {
	lost, fixed := 0, 0
	for _, n := range lengths() {
		for e := range 33 {
			for _, more := range []int{1, 2, 9} {
				next := numbers(uint32(n*100 + e + more*7))
				places := some(n, min(e+(32-e)/2+more, n), next)
				word := changed(codeWord(t, n, next), places, next)
				got, err := Fix(word, places[:e])
				if err != nil {
					refused(t, word, places[:e], api.ErrLost)
					lost++
					continue
				}
				if !code.Right(got.Word) || e+2*others(word, got.Word, places[:e]) > 32 {
					t.Fatalf("Fix(%v, %v) = %v", word, places[:e], got)
				}
				repaired(t, word, places[:e], got.Word)
				fixed++
			}
		}
	}
	if lost < 100 || fixed < 20 {
		t.Fatalf("%d were lost, %d fixed", lost, fixed)
	}
}

func TestFixLosesWhatIsWrongAheadOfTheWord(t *testing.T) {
	// A longer code word, without its first symbols: a code word of 255 symbols is near, but none of the word's own length.
	for _, n := range []int{33, 34, 40, 100, 200, 250} {
		for cut := 1; cut <= min(16, 255-n); cut++ {
			for _, e := range []int{0, 1, 2, 9, 32 - 2*cut} {
				if e < 0 || 2*cut+e > 32 {
					continue
				}
				next := numbers(uint32(n*999 + cut*33 + e))
				data := listOf(n+cut-api.Parity, next)
				for i := range cut {
					data[i] |= 1
				}
				places := some(n, e+(32-e-2*cut)/2, next)
				word := encoded(t, data)[cut:]
				refused(t, word, places[:e], api.ErrLost)
				refused(t, changed(word, places, next), places[:e], api.ErrLost)
			}
		}
	}
}

func TestFixLosesWhatIsErasedAndWrongAtOnePlace(t *testing.T) {
	// With syndromes like these the register's root is that of the erased place once more.
	for _, n := range lengths() {
		for _, place := range []int{0, 1, n / 2, n - 1} {
			var s code.Syndromes
			for j := range s {
				s[j] = field.Mul(byte(j%2+4), field.Pow(stands(n, place), j))
			}
			refused(t, having(t, n, s), []int{place}, api.ErrLost)
		}
	}
}

func TestFixLosesWordsWithOneSyndrome(t *testing.T) {
	// One that isn't 0, at either end or between: the register is long, or its polynomial has no last number.
	for place := range 32 {
		s := code.Syndromes{}
		s[place] = 5
		for _, n := range []int{33, 100, 254} {
			refused(t, having(t, n, s), nil, api.ErrLost)
		}
	}
}

func TestFixByAnySyndromes(t *testing.T) {
	all := shortest(t)
	for seed := range uint32(200) {
		next := numbers(seed)
		var s code.Syndromes
		copy(s[next()%32:], listOf(next()%6+1, next))
		word := having(t, 33, s)
		for _, e := range []int{0, 1, 2, 15, 16, 30, 31, 32} {
			asked(t, all, word, some(33, e, next))
		}
	}
}

func TestFixWithAllParityErased(t *testing.T) {
	// Whatever stands at 32 places: with these erased there is one code word.
	for _, n := range lengths() {
		next := numbers(uint32(n))
		for range 5 {
			word, places := listOf(n, next), some(n, 32, next)
			got, err := Fix(word, places)
			if err != nil || !code.Right(got.Word) || got.Errors != 0 {
				t.Fatalf("Fix(%v, %v) = %v, %v", word, places, got, err)
			}
			repaired(t, word, places, got.Word)
		}
		data := listOf(n-32, next)
		repaired(t, append(slices.Clone(data), listOf(32, next)...), upTo(n)[n-32:], encoded(t, data))
	}
}

func TestFixWhatIsNoWord(t *testing.T) {
	far := []int{math.MinInt, -1, 0, 254, 255, math.MaxInt}
	for _, n := range wrongLengths() {
		for _, erased := range [][]int{nil, {}, {0}, {0, 0}, far, upTo(40), make([]int, 300)} {
			refused(t, make([]byte, n), erased, api.ErrSize)
			refused(t, listOf(n, numbers(1)), erased, api.ErrSize)
		}
	}
	refused(t, nil, nil, api.ErrSize)
}

func TestFixWithWrongPlaces(t *testing.T) {
	for _, n := range lengths() {
		next := numbers(uint32(n))
		// The first is a code word, the others are lost: the fault of the places is told ahead of that.
		for _, word := range [][]byte{codeWord(t, n, next), listOf(n, next), having(t, n, code.Syndromes{3: 1})} {
			for _, place := range []int{math.MinInt, math.MinInt32, -1, n, n + 1, 256, math.MaxInt32, math.MaxInt} {
				refused(t, word, []int{place}, api.ErrRange)
				refused(t, word, []int{0, 0, place}, api.ErrRange)
				refused(t, word, append(upTo(33), place), api.ErrRange)
				refused(t, word, []int{place, place}, api.ErrRange)
			}
			refused(t, word, []int{5, 5}, api.ErrDup)
			refused(t, word, []int{n - 1, 0, n - 1}, api.ErrDup)
			refused(t, word, append(upTo(33), 32), api.ErrDup)
			refused(t, word, make([]int, 300), api.ErrDup)
			refused(t, word, upTo(33), api.ErrSpare)
			refused(t, word, upTo(n), api.ErrSpare)
		}
	}
}
