package locate

import (
	"bytes"
	"errors"
	"slices"
	"testing"

	"bailee/api"
	"bailee/code"
	"bailee/field"
)

// changed is a code word of n symbols, changed at so many places, and at others; and all these places, the first ones first.
func changed(t *testing.T, n, first, others int, next func() int) ([]byte, []int) {
	t.Helper()
	data := make([]byte, n-api.Parity)
	for i := range data {
		data[i] = byte(next())
	}
	word, err := code.Encode(data)
	if err != nil {
		t.Fatal(err)
	}
	places := some(n, first+others, next)
	for _, place := range places {
		word[place] ^= byte(next()%255 + 1)
	}
	return word, places
}

// zeros are the places of words of n symbols whose value's inverse is a root.
func zeros(p []byte, n int) []int {
	var places []int
	for place := range n {
		inverse, _ := field.Inv(stands(n, place))
		if value(p, inverse) == 0 {
			places = append(places, place)
		}
	}
	return places
}

// find is what is told of syndromes, by the document's words.
func find(s code.Syndromes, n int, places []int) (Found, error) {
	row := forney(s, locator(n, places))
	p, length := Register(row)
	if 2*least(row) > len(row) || len(p)-1 < length {
		return Found{}, api.ErrLost
	}
	all := product(p, locator(n, places))
	low := product(trimmed(s[:]), all)
	return Found{length, all, trimmed(low[:min(len(low), api.Parity)])}, nil
}

// asked holds Find's answer against the document's words.
func asked(t *testing.T, s code.Syndromes, n int, places []int) (Found, error) {
	t.Helper()
	got, err := Find(s, n, places)
	want, wantErr := find(s, n, places)
	if wantErr != nil && !errors.Is(err, wantErr) || wantErr == nil && err != nil {
		t.Fatalf("Find(%v, %d, %v) = %v, %v, not %v, %v", s, n, places, got, err, want, wantErr)
	}
	if got.Errors != want.Errors || !bytes.Equal(got.Locator, want.Locator) || !bytes.Equal(got.Evaluator, want.Evaluator) {
		t.Fatalf("Find(%v, %d, %v) = %v, %v, not %v, %v", s, n, places, got, err, want, wantErr)
	}
	return got, err
}

func TestFindWhereWordsAreWrong(t *testing.T) {
	for _, n := range lengths() {
		for e := range 33 {
			for _, others := range slices.Compact([]int{0, min(1, (32-e)/2), (32 - e) / 4, (32 - e) / 2}) {
				word, places := changed(t, n, e, others, numbers(uint32(n*1000+e*33+others)))
				s, _ := code.Of(word)
				got, err := asked(t, s, n, places[:e])
				want := slices.Sorted(slices.Values(places))
				if err != nil || got.Errors != others || !slices.Equal(zeros(got.Locator, n), want) || len(got.Locator) != len(places)+1 {
					t.Fatalf("of %d symbols %v were changed, the first %d erased: %v, %v", n, places, e, got, err)
				}
			}
		}
	}
}

func TestFindWithErasedPlacesThatAreRight(t *testing.T) {
	for _, n := range lengths() {
		for e := range 33 {
			others := (32 - e) / 2
			word, wrong := changed(t, n, 0, others, numbers(uint32(n+e)))
			var erased []int
			for place := range n {
				if !slices.Contains(wrong, place) && len(erased) < e {
					erased = append(erased, place)
				}
			}
			if len(erased) < e {
				continue
			}
			s, _ := code.Of(word)
			got, err := asked(t, s, n, erased)
			want := slices.Sorted(slices.Values(append(erased, wrong...)))
			if err != nil || got.Errors != others || !slices.Equal(zeros(got.Locator, n), want) {
				t.Fatalf("of %d symbols %v were changed, and %v erased: %v, %v", n, wrong, erased, got, err)
			}
		}
	}
}

func TestFindInWordsThatAreWrongBeyondWhatIsBorne(t *testing.T) {
	lost := 0
	for _, n := range lengths() {
		for e := range 33 {
			for _, more := range []int{1, 2, 9} {
				others := (32-e)/2 + more
				if e+others > n {
					continue
				}
				word, places := changed(t, n, e, others, numbers(uint32(n*100+e)))
				s, _ := code.Of(word)
				if _, err := asked(t, s, n, places[:e]); err != nil {
					lost++
				}
			}
		}
	}
	if lost == 0 {
		t.Fatal("none was lost")
	}
}

func TestFindWithSyndromesThatLookLikeChance(t *testing.T) {
	for seed := range uint32(40) {
		s, next := noise(seed), numbers(seed)
		for e := range 33 {
			asked(t, s, 255, some(255, e, next))
		}
		// Where there are but few that aren't 0 the register is short, or has no last number.
		for keep := range 8 {
			few := code.Syndromes{}
			copy(few[next()%25:], s[:keep])
			for _, e := range []int{0, 1, 2, 15, 16, 31, 32} {
				asked(t, few, 40, some(40, e, next))
			}
		}
	}
}

func TestFindAtTheEdgeOfWhatIsBorne(t *testing.T) {
	// A row of m numbers, the last but t - 1 of which are noughts, has a register of length t whose polynomial is 1.
	for place := range 32 {
		s := code.Syndromes{}
		s[place] = 5
		if got, err := asked(t, s, 100, nil); !errors.Is(err, api.ErrLost) {
			t.Fatalf("one syndrome alone isn't 0, that at %d: %v, %v", place, got, err)
		}
	}
	// As many wrong places as half of what is left, and one more right place erased than that bears.
	for e := range 31 {
		others := (32 - e) / 2
		word, places := changed(t, 255, e, others, numbers(uint32(e)))
		s, _ := code.Of(word)
		if got, err := asked(t, s, 255, places[:e]); err != nil || got.Errors != others {
			t.Fatalf("%d erased, %d wrong: %v, %v", e, others, got, err)
		}
		erased := slices.Clone(places[:e])
		for place := 0; len(erased)+2*others <= 32; place++ {
			if !slices.Contains(places, place) {
				erased = append(erased, place)
			}
		}
		if got, err := asked(t, s, 255, erased); err == nil && got.Errors == others {
			t.Fatalf("%d erased, %d wrong: %v", len(erased), others, got)
		}
	}
}

func TestFindOfCodeWords(t *testing.T) {
	for _, n := range lengths() {
		for e := range 33 {
			places := some(n, e, numbers(uint32(n+e)))
			got, err := asked(t, code.Syndromes{}, n, places)
			if err != nil || got.Errors != 0 || len(got.Evaluator) != 0 || !bytes.Equal(got.Locator, locator(n, places)) {
				t.Fatalf("a code word of %d symbols, %v erased: %v, %v", n, places, got, err)
			}
		}
	}
}

func TestFindWithEachPlaceErasedThatMayBe(t *testing.T) {
	// With Parity places erased nothing is left to find others by: whatever the syndromes, there are none.
	for seed := range uint32(50) {
		places := some(255, 32, numbers(seed))
		got, err := asked(t, noise(seed), 255, places)
		if err != nil || got.Errors != 0 || !bytes.Equal(got.Locator, locator(255, places)) {
			t.Fatalf("32 places erased: %v, %v", got, err)
		}
	}
}

// roomy is a list with more behind it, all of it told.
func roomy[T byte | int](list []T) []T {
	return append(append(make([]T, 0, len(list)+9), list...), 1, 2, 3, 4, 5, 6, 7, 8, 9)
}

// answers are all lists that are answered, of syndromes, a polynomial and places.
func answers(s code.Syndromes, p []byte, n int, places []int) [][]byte {
	erasures, _ := Erasures(n, places)
	register, _ := Register(p)
	found, _ := Find(s, n, places)
	return [][]byte{erasures, Forney(s, p), register, found.Locator, found.Evaluator}
}

func TestNothingGivenIsChanged(t *testing.T) {
	for seed, p := range polynomials() {
		next := numbers(uint32(seed))
		for e := range 35 {
			word, places := changed(t, 100, e, 3, next)
			s, _ := code.Of(word)
			list, erased := roomy(p), roomy(places[:e])
			first := answers(s, list[:len(p)], 100, erased[:e])
			for _, answer := range first {
				for i := range answer[:cap(answer)] {
					answer[:cap(answer)][i] ^= 255
				}
			}
			if !bytes.Equal(list, roomy(p)) || !slices.Equal(erased, roomy(places[:e])) {
				t.Fatalf("%v or %v, or the room behind them, was changed", p, places[:e])
			}
			for i, answer := range answers(s, p, 100, places[:e]) {
				for j := range answer {
					if answer[j] != first[i][j]^255 {
						t.Fatalf("writing over answers changed answer %d: %v, and %v", i, first, answer)
					}
				}
			}
		}
	}
}
