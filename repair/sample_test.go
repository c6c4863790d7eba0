package repair

import (
	"slices"
	"testing"

	"bailee/api"
	"bailee/code"
	"bailee/field"
)

// numbers makes numbers that look like chance, the same ones each time.
func numbers(seed uint32) func() int {
	return func() int {
		seed = seed*1664525 + 1013904223
		return int(seed >> 8)
	}
}

// listOf is a list of n symbols that look like chance.
func listOf(n int, next func() int) []byte {
	list := make([]byte, n)
	for i := range list {
		list[i] = byte(next())
	}
	return list
}

// upTo are 0 to n - 1.
func upTo(n int) []int {
	all := make([]int, n)
	for i := range all {
		all[i] = i
	}
	return all
}

// some are so many of 0 to n - 1, in an order that looks like chance.
func some(n, many int, next func() int) []int {
	all := upTo(n)
	for i := range all {
		j := i + next()%(n-i)
		all[i], all[j] = all[j], all[i]
	}
	return all[:many]
}

// rising are places in order.
func rising(places []int) []int { return slices.Sorted(slices.Values(places)) }

// encoded is the code word of data.
func encoded(t *testing.T, data []byte) []byte {
	t.Helper()
	word, err := code.Encode(data)
	if err != nil {
		t.Fatal(err)
	}
	return word
}

// codeWord is a code word of n symbols.
func codeWord(t *testing.T, n int, next func() int) []byte {
	t.Helper()
	return encoded(t, listOf(n-api.Parity, next))
}

// changed is a word that is another one at each of some places, and only there.
func changed(word []byte, places []int, next func() int) []byte {
	word = slices.Clone(word)
	for _, place := range places {
		word[place] ^= byte(next()%255 + 1)
	}
	return word
}

// lengths are lengths of words: both edges, and what lies between.
func lengths() []int { return []int{33, 34, 35, 40, 64, 65, 100, 128, 223, 224, 254, 255} }

// wrongLengths are lengths that no word has.
func wrongLengths() []int { return []int{0, 1, 31, 32, 256, 257, 300, 512, 1000} }

// product is the product of two polynomials.
func product(p, q []byte) []byte {
	sum := make([]byte, len(p)+len(q))
	for i, a := range p {
		for j, b := range q {
			sum[i+j] ^= field.Mul(a, b)
		}
	}
	return sum
}

// value is a polynomial's value.
func value(p []byte, x byte) byte {
	var sum byte
	for i, a := range p {
		sum ^= field.Mul(a, field.Pow(x, i))
	}
	return sum
}

// stands is the value that stands for a place in words of n symbols.
func stands(n, place int) byte { return field.Pow(2, n-1-place) }

// locator is the product of (1 + X x) over the values that stand for places.
func locator(n int, places []int) []byte {
	all := []byte{1}
	for _, place := range places {
		all = product(all, []byte{1, stands(n, place)})
	}
	return all
}

// having is a word of n symbols that has these syndromes: noughts, and 32 symbols whose polynomial goes through them.
func having(t *testing.T, n int, s code.Syndromes) []byte {
	t.Helper()
	var sum [api.Parity]byte
	for j := range s {
		through := []byte{1}
		for i := range s {
			if i != j {
				by, _ := field.Inv(field.Exp(i) ^ field.Exp(j))
				through = product(through, []byte{field.Mul(field.Exp(i), by), by})[:len(through)+1]
			}
		}
		for i, a := range through {
			sum[i] ^= field.Mul(a, s[j])
		}
	}
	word := make([]byte, n)
	for i, a := range sum {
		word[n-1-i] = a
	}
	if got, err := code.Of(word); err != nil || got != s {
		t.Fatalf("%v has the syndromes %v, not %v", word, got, s)
	}
	return word
}

// roomy is a list with more behind it, all of it told.
func roomy[T byte | int](list []T) []T {
	return append(append(make([]T, 0, len(list)+9), list...), 1, 2, 3, 4, 5, 6, 7, 8, 9)
}
