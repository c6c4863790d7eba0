package repair

import (
	"bytes"
	"errors"
	"math"
	"slices"
	"testing"

	"bailee/api"
	"bailee/code"
	"bailee/field"
	"bailee/locate"
)

// polynomials are some: the edges, those of a few degrees, and some with many coefficients.
func polynomials() [][]byte {
	list := [][]byte{nil, {}, {0}, {0, 0, 0}, {1}, {7}, {0, 1}, {1, 1}, {1, 0, 1}, {1, 2}, {3, 0, 0, 7}, {2, 3, 1}, append(make([]byte, 255), 1)}
	next := numbers(9)
	for _, n := range []int{2, 3, 4, 9, 16, 17, 32, 33, 34, 255, 256, 300} {
		list = append(list, listOf(n, next), append(listOf(n, next), 0, 0))
	}
	// x to the power 255, and 1: each number but 0 is a root.
	return append(list, append([]byte{1}, append(make([]byte, 254), 1)...))
}

// roots are the places of words of n symbols whose value's inverse is a root.
func roots(p []byte, n int) []int {
	var places []int
	for place := range n {
		if inverse, _ := field.Inv(stands(n, place)); value(p, inverse) == 0 {
			places = append(places, place)
		}
	}
	return places
}

func TestSearch(t *testing.T) {
	for _, n := range lengths() {
		for _, p := range polynomials() {
			if got, want := Search(p, n), roots(p, n); !slices.Equal(got, want) {
				t.Fatalf("Search(%v, %d) = %v, not %v", p, n, got, want)
			}
		}
		if got := Search(nil, n); !slices.Equal(got, upTo(n)) {
			t.Fatalf("of 0, which is 0 everywhere, Search answers %v, not all %d places", got, n)
		}
		if got := Search([]byte{1}, n); len(got) != 0 {
			t.Fatalf("of 1, which has no roots, Search answers %v", got)
		}
	}
}

func TestSearchOfPlaces(t *testing.T) {
	for n := 33; n <= 255; n++ {
		for _, many := range []int{1, 2, 17, 33} {
			places := some(n, many, numbers(uint32(n*many)))
			p := locator(n, places)
			if got := Search(p, n); !slices.Equal(got, rising(places)) {
				t.Fatalf("Search of the locator of %v, of %d symbols, is %v", places, n, got)
			}
			if got := Search(product(p, p), n); !slices.Equal(got, rising(places)) {
				t.Fatalf("Search of the locator of %v, twice, of %d symbols, is %v", places, n, got)
			}
		}
	}
}

func TestSearchOfPlacesAheadOfTheWord(t *testing.T) {
	for n := 34; n <= 255; n++ {
		// In a word with fewer symbols the first ones have no place, and the others a lower one.
		if got := Search(locator(n, []int{0, 1, n - 1}), n-1); !slices.Equal(got, []int{0, n - 2}) {
			t.Fatalf("of %d symbols the places are %v", n-1, got)
		}
	}
}

func TestSearchWithoutWords(t *testing.T) {
	far := []int{math.MinInt, math.MinInt32, -255, -33, -1, math.MaxInt32, math.MaxInt}
	for _, n := range append(far, wrongLengths()...) {
		for _, p := range polynomials() {
			if got := Search(p, n); len(got) != 0 {
				t.Fatalf("Search(%v, %d) = %v", p, n, got)
			}
		}
	}
}

// slope is a polynomial's derivative at a number: each coefficient as often as its power tells.
func slope(p []byte, x byte) byte {
	var sum byte
	for i, a := range p {
		for range i {
			sum ^= field.Mul(a, field.Pow(x, i-1))
		}
	}
	return sum
}

func TestAmount(t *testing.T) {
	divided, zero := 0, 0
	list := polynomials()
	for at, p := range list {
		found := locate.Found{Errors: at, Locator: p, Evaluator: list[(at*5+7)%len(list)]}
		for i, n := range lengths() {
			for _, place := range []int{0, 1, at % n, (at + i*11) % n, n - 2, n - 1} {
				value, below := stands(n, place), byte(0)
				inverse, _ := field.Inv(value)
				for power, a := range found.Evaluator {
					below ^= field.Mul(a, field.Pow(inverse, power))
				}
				want, wantErr := field.Div(field.Mul(value, below), slope(p, inverse))
				if wantErr != nil {
					zero++
				} else {
					divided++
				}
				got, err := Amount(found, n, place)
				if got != want || wantErr == nil && err != nil || wantErr != nil && !errors.Is(err, api.ErrZero) {
					t.Fatalf("Amount(%v, %d, %d) = %d, %v, not %d, %v", found, n, place, got, err, want, wantErr)
				}
			}
		}
	}
	if divided < 100 || zero < 100 {
		t.Fatalf("%d were divided, %d had no slope", divided, zero)
	}
}

func TestAmountOfChanges(t *testing.T) {
	for _, n := range lengths() {
		for e := range 33 {
			next := numbers(uint32(n*e + 3))
			right, places := codeWord(t, n, next), some(n, e+(32-e)/2, next)
			word := changed(right, places, next)
			s, _ := code.Of(word)
			found, err := locate.Find(s, n, places[:e])
			if err != nil {
				t.Fatal(err)
			}
			for _, place := range places {
				if got, err := Amount(found, n, place); err != nil || got != word[place]^right[place] {
					t.Fatalf("at %d of %d symbols is added %d, %v, not %d", place, n, got, err, word[place]^right[place])
				}
			}
		}
	}
}

func TestAmountOfNoSuchPlace(t *testing.T) {
	far := []int{math.MinInt, math.MinInt32, -1, math.MaxInt32, math.MaxInt}
	for _, found := range []locate.Found{{}, {Errors: 1, Locator: []byte{1, 1}, Evaluator: []byte{5}}, {Locator: []byte{1, 0, 1}}} {
		for _, n := range append(far, wrongLengths()...) {
			for _, place := range append(far, 0, 1, 32, 255) {
				if got, err := Amount(found, n, place); got != 0 || !errors.Is(err, api.ErrSize) {
					t.Fatalf("Amount(%v, %d, %d) = %d, %v", found, n, place, got, err)
				}
			}
		}
		for _, n := range lengths() {
			for _, place := range append(far, n, n+1, 255, 256) {
				if got, err := Amount(found, n, place); got != 0 || !errors.Is(err, api.ErrRange) {
					t.Fatalf("Amount(%v, %d, %d) = %d, %v", found, n, place, got, err)
				}
			}
		}
	}
}

func TestAmountWithoutSlope(t *testing.T) {
	for _, n := range lengths() {
		places := []int{0, 3, n - 1}
		twice := product(locator(n, places), locator(n, places))
		for _, p := range [][]byte{nil, {}, {0, 0}, {1}, {9, 0, 3}, twice} {
			for _, place := range places {
				if got, err := Amount(locate.Found{Locator: p, Evaluator: []byte{1, 2, 3}}, n, place); got != 0 || !errors.Is(err, api.ErrZero) {
					t.Fatalf("of %v at %d of %d symbols is added %d, %v", p, place, n, got, err)
				}
			}
		}
		// An evaluator that is 0 is no fault.
		if got, err := Amount(locate.Found{Locator: []byte{1, 1}}, n, 0); got != 0 || err != nil {
			t.Fatalf("without an evaluator is added %d, %v", got, err)
		}
	}
}

func TestSpare(t *testing.T) {
	counts := []int{math.MinInt, math.MinInt32, math.MaxInt32, math.MaxInt, math.MaxInt - 1, math.MaxInt / 2, math.MaxInt/2 + 1, 1 << 62, 1 << 31}
	for i := -40; i < 80; i++ {
		counts = append(counts, i)
	}
	for _, e := range counts {
		for _, wrong := range counts {
			want := 0
			if e < 32 && wrong <= 16 {
				want = max(0, 32-max(0, e)-2*max(0, wrong))
			}
			if got := Spare(e, wrong); got != want {
				t.Fatalf("Spare(%d, %d) = %d, not %d", e, wrong, got, want)
			}
		}
	}
}

func TestSparesThatAreKnown(t *testing.T) {
	for _, c := range [][3]int{{0, 0, 32}, {4, 3, 22}, {0, 16, 0}, {0, 17, 0}, {0, 15, 2}, {32, 0, 0}, {31, 0, 1}, {31, 1, 0}, {33, 0, 0}, {-3, 1, 30}, {3, -1, 29}, {-1, -1, 32}} {
		if got := Spare(c[0], c[1]); got != c[2] {
			t.Errorf("Spare(%d, %d) = %d, not %d", c[0], c[1], got, c[2])
		}
	}
}

func TestOnly(t *testing.T) {
	for _, n := range lengths() {
		for e := range 33 {
			for wrong := range (32-e)/2 + 2 {
				next := numbers(uint32(n*2000 + e*33 + wrong))
				right, places := codeWord(t, n, next), some(n, min(e+wrong, n), next)
				word := changed(right, places, next)
				got, err := Only(word, places[:e])
				fixed, fault := Fix(word, places[:e])
				switch {
				case wrong == 0:
					if err != nil || !bytes.Equal(got, right) {
						t.Fatalf("Only(%v, %v) = %v, %v, not %v", word, places[:e], got, err, right)
					}
				case fault == nil && fixed.Errors == 0:
					if err != nil || !bytes.Equal(got, fixed.Word) {
						t.Fatalf("Only(%v, %v) = %v, %v, not %v", word, places[:e], got, err, fixed.Word)
					}
				case !errors.Is(err, api.ErrLost) || len(got) != 0:
					t.Fatalf("Only(%v, %v) = %v, %v", word, places[:e], got, err)
				}
			}
		}
	}
}

func TestOnlyWhereErasedPlacesAreRightAndOthersWrong(t *testing.T) {
	for _, n := range lengths() {
		for e := range 31 {
			for wrong := 1; e+2*wrong <= 32; wrong += 3 {
				next := numbers(uint32(n*50 + e))
				right, places := codeWord(t, n, next), some(n, e+wrong, next)
				for _, first := range []int{e, (e + 1) / 2} {
					word := changed(right, places[first:], next)
					if got, err := Only(word, places[:e]); !errors.Is(err, api.ErrLost) || len(got) != 0 {
						t.Fatalf("Only(%v, %v) = %v, %v, though %v is wrong", word, places[:e], got, err, places[e:])
					}
				}
			}
		}
	}
}

func TestOnlyOfWrongInputs(t *testing.T) {
	next := numbers(4)
	cases := []struct {
		word   []byte
		erased []int
		want   error
	}{
		{nil, nil, api.ErrSize},
		{make([]byte, 32), []int{-1}, api.ErrSize},
		{make([]byte, 256), []int{0, 0}, api.ErrSize},
		{make([]byte, 33), []int{33}, api.ErrRange},
		{listOf(40, next), []int{0, 0, -1}, api.ErrRange},
		{listOf(40, next), append(upTo(33), 0), api.ErrDup},
		{listOf(40, next), upTo(33), api.ErrSpare},
		{having(t, 40, code.Syndromes{3: 1}), nil, api.ErrLost},
	}
	for _, c := range cases {
		if got, err := Only(c.word, c.erased); !errors.Is(err, c.want) || len(got) != 0 {
			t.Errorf("Only(%v, %v) = %v, %v, not %v", c.word, c.erased, got, err, c.want)
		}
	}
}

// answers is what is answered of a word, with each list in full.
func answers(word []byte, erased []int) (lists [][]byte, places [][]int) {
	fixed, _ := Fix(word, erased)
	only, _ := Only(word, erased)
	s, _ := code.Of(word)
	found, _ := locate.Find(s, len(word), erased)
	Amount(found, len(word), 0)
	return [][]byte{fixed.Word, only}, [][]int{fixed.Places, Search(word, len(word))}
}

func TestNothingGivenIsChanged(t *testing.T) {
	for _, n := range lengths() {
		for e := range 34 {
			for _, wrong := range []int{0, 1, 3} {
				next := numbers(uint32(n*40 + e))
				places := some(n, min(e+wrong, n), next)
				word := changed(codeWord(t, n, next), places, next)
				erased := places[:min(e, n)]
				list, told := roomy(word), roomy(erased)
				answers(list[:n], told[:len(erased)])
				if !bytes.Equal(list, roomy(word)) || !slices.Equal(told, roomy(erased)) {
					t.Fatalf("%v or %v, or the room behind them, was changed", word, erased)
				}
			}
		}
	}
}

func TestAnswersAreTheCallersAlone(t *testing.T) {
	for _, n := range lengths() {
		for _, wrong := range []int{0, 1, 3} {
			next := numbers(uint32(n + wrong))
			places := some(n, 5+wrong, next)
			word := changed(codeWord(t, n, next), places, next)
			list, told := slices.Clone(word), slices.Clone(places[:5])
			wantLists, wantPlaces := answers(word, places[:5])
			gotLists, gotPlaces := answers(list, told)
			for _, got := range gotLists {
				for i := range got[:cap(got)] {
					got[:cap(got)][i] ^= 255
				}
			}
			for _, got := range gotPlaces {
				for i := range got[:cap(got)] {
					got[:cap(got)][i] = -7
				}
			}
			if !bytes.Equal(list, word) || !slices.Equal(told, places[:5]) {
				t.Fatalf("writing over answers changed %v or %v", word, places[:5])
			}
			again, againPlaces := answers(list, told)
			if !slices.EqualFunc(again, wantLists, bytes.Equal) || !slices.EqualFunc(againPlaces, wantPlaces, slices.Equal) {
				t.Fatalf("writing over answers changed them to %v, %v", again, againPlaces)
			}
		}
	}
}

func TestAnswersAreNewMemoryWhenNothingIsRepaired(t *testing.T) {
	word := codeWord(t, 50, numbers(1))
	fixed, _ := Fix(word, nil)
	only, _ := Only(word, nil)
	fixed.Word[3]++
	only[4]++
	if !code.Right(word) || fixed.Word[4] == only[4] || fixed.Word[3] == only[3] {
		t.Fatal("writing over a word that was right all the same changed another one")
	}
}
