package code

import (
	"bytes"
	"errors"
	"slices"
	"testing"

	"bailee/api"
	"bailee/field"
)

// values is a word's syndromes as the document words them: symbol number i stands at x to the power n - 1 - i.
func values(word []byte) Syndromes {
	var s Syndromes
	for j := range s {
		for i, symbol := range word {
			s[j] ^= field.Mul(symbol, field.Pow(field.Exp(j), len(word)-1-i))
		}
	}
	return s
}

func TestOf(t *testing.T) {
	for n := api.Parity + 1; n <= api.Data+api.Parity; n++ {
		for _, word := range samples(n)[1:5] {
			if got, err := Of(word); err != nil || got != values(word) {
				t.Fatalf("Of(%v) = %v, %v, not %v", word, got, err, values(word))
			}
		}
	}
}

func TestOfOneSymbol(t *testing.T) {
	for _, n := range []int{33, 34, 100, 254, 255} {
		for place := range n {
			word := make([]byte, n)
			word[place] = byte(place) | 1
			s, err := Of(word)
			for j, got := range s {
				want := field.Mul(word[place], field.Pow(Power(n, place), j))
				if err != nil || got != want {
					t.Fatalf("syndrome %d of the one symbol %d at %d of %d: %d, %v, not %d", j, word[place], place, n, got, err, want)
				}
			}
		}
	}
}

func TestShorterWordsAreThoseWithNoughtsAhead(t *testing.T) {
	for n := api.Parity + 1; n < api.Data+api.Parity; n += 7 {
		word := listOf(n, numbers(uint32(n)))
		long := append(make([]byte, 255-n), word...)
		short, err := Of(word)
		got, errLong := Of(long)
		if err != nil || errLong != nil || short != got {
			t.Fatalf("Of(%v) = %v, %v, and with noughts ahead %v, %v", word, short, err, got, errLong)
		}
		data := word[:n-api.Parity]
		parity, _ := Parity(data)
		same, _ := Parity(append(make([]byte, api.Data-len(data)), data...))
		if !bytes.Equal(parity, same) {
			t.Fatalf("Parity(%v) = %v, and with noughts ahead %v", data, parity, same)
		}
	}
}

func TestNoWords(t *testing.T) {
	for _, word := range noWords() {
		if s, err := Of(word); !errors.Is(err, api.ErrSize) || s != (Syndromes{}) {
			t.Fatalf("Of %d symbols: %v, %v", len(word), s, err)
		}
		if Right(word) {
			t.Fatalf("%d symbols are no word, and no code word", len(word))
		}
	}
}

func TestQuiet(t *testing.T) {
	if !(Syndromes{}).Quiet() {
		t.Fatal("all are 0")
	}
	for j := range api.Parity {
		for _, a := range []byte{1, 2, 128, 255} {
			var s Syndromes
			s[j] = a
			if s.Quiet() {
				t.Fatalf("syndrome %d is %d", j, a)
			}
			for i := range s {
				s[i] = a
			}
			if s.Quiet() {
				t.Fatalf("all syndromes are %d", a)
			}
		}
	}
}

func TestPoly(t *testing.T) {
	if got := (Syndromes{}).Poly(); len(got) != 0 {
		t.Fatalf("the polynomial of noughts is %v", got)
	}
	for j := range api.Parity {
		var one, full Syndromes
		one[j] = 7
		for i := range j + 1 {
			full[i] = byte(255 - i)
		}
		if got, want := one.Poly(), append(make([]byte, j), 7); !bytes.Equal(got, want) {
			t.Fatalf("%v has the polynomial %v, not %v", one, got, want)
		}
		if got := full.Poly(); !bytes.Equal(got, full[:j+1]) {
			t.Fatalf("%v has the polynomial %v", full, got)
		}
	}
}

// codeWord holds a word against what makes a code word: that it is a multiple of the generator, and that its syndromes are all 0.
func codeWord(t *testing.T, word []byte, want bool) {
	t.Helper()
	s, err := Of(word)
	multiple := bytes.Equal(rest(word), make([]byte, api.Parity))
	if err != nil || Right(word) != want || s.Quiet() != want || s != values(word) || multiple != want {
		t.Fatalf("%v: %v, %v, right %v, quiet %v, multiple %v, not %v", word, s, err, Right(word), s.Quiet(), multiple, want)
	}
}

func TestCodeWordsAreQuiet(t *testing.T) {
	for _, n := range someLengths() {
		for _, data := range samples(n) {
			word, err := Encode(data)
			if err != nil {
				t.Fatal(err)
			}
			codeWord(t, word, true)
		}
	}
}

func TestEachMultipleOfTheGeneratorIsACodeWord(t *testing.T) {
	by := product()
	slices.Reverse(by)
	for n := api.Parity + 1; n <= api.Data+api.Parity; n += 3 {
		next, word := numbers(uint32(n)), make([]byte, n)
		for i := range n - api.Parity {
			times := next()
			for k, a := range by {
				word[i+k] ^= field.Mul(times, a)
			}
		}
		codeWord(t, word, true)
	}
}

func TestOtherWordsAreNotQuiet(t *testing.T) {
	for n := api.Parity + 1; n <= api.Data+api.Parity; n += 2 {
		codeWord(t, listOf(n, numbers(uint32(n))), false)
	}
	for _, n := range []int{1, 2, 60, 222, 223} {
		word, _ := Encode(samples(n)[4])
		for place := range word {
			by := byte(place%255) + 1
			word[place] ^= by
			codeWord(t, word, false)
			word[place] ^= by
		}
	}
}

func TestWordsOfOneChangeAreNotQuiet(t *testing.T) {
	word, _ := Encode([]byte{77})
	for place := range word {
		for by := 1; by < 256; by++ {
			word[place] ^= byte(by)
			if Right(word) {
				t.Fatalf("%v is right, changed by %d at %d", word, by, place)
			}
			word[place] ^= byte(by)
		}
	}
}

func TestWordsOfUpToParityChangesAreNotQuiet(t *testing.T) {
	for _, n := range someLengths() {
		word, _ := Encode(samples(n)[4])
		for count := 1; count <= api.Parity; count++ {
			next, other := numbers(uint32(n*64+count)), slices.Clone(word)
			for len(Differ(word, other)) < count {
				other[(int(next())*256+int(next()))%len(other)] ^= next()
			}
			codeWord(t, other, false)
		}
	}
}

func TestCodeWordsAreFarFromOneAnother(t *testing.T) {
	for _, n := range someLengths() {
		var words [][]byte
		for _, data := range samples(n) {
			word, _ := Encode(data)
			for _, other := range words {
				if places := Differ(word, other); len(places) <= api.Parity && !bytes.Equal(word, other) {
					t.Fatalf("%v and %v differ at %v alone", word, other, places)
				}
			}
			words = append(words, word)
		}
	}
}

func TestCodeWordsOfOneOrTwoDataSymbolsAreFarFromOneAnother(t *testing.T) {
	// A sum of code words is one, and so is one times a number: so it is enough to hold those that begin with 1, or with 0 and 1, against noughts.
	for b := range 256 {
		for _, data := range [][]byte{{1}, {0, 1}, {1, byte(b)}, {1, 0, byte(b)}, {1, 9, byte(b)}} {
			word, err := Encode(data)
			if places := Differ(word, make([]byte, len(word))); err != nil || len(places) <= api.Parity {
				t.Fatalf("%v and noughts differ at %v alone, %v", word, places, err)
			}
		}
	}
}

func TestSumsAndMultiplesOfCodeWordsAreCodeWords(t *testing.T) {
	for _, n := range someLengths() {
		list := samples(n)
		a, _ := Encode(list[4])
		b, _ := Encode(list[5])
		sum := make([]byte, len(a))
		for i := range sum {
			sum[i] = field.Add(field.Mul(a[i], 29), b[i])
		}
		codeWord(t, sum, true)
		data, _ := Data(sum)
		if word, err := Encode(data); err != nil || !bytes.Equal(word, sum) {
			t.Fatalf("Encode(%v) = %v, %v, not %v", data, word, err, sum)
		}
	}
}
