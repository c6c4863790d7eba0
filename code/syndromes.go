package code

import (
	"bailee/api"
	"bailee/field"
	"bailee/poly"
)

// Syndromes is a word's syndromes.
type Syndromes [api.Parity]byte

// Of is a word's syndromes.
func Of(word []byte) (Syndromes, error) {
	if !fits(len(word)) {
		return Syndromes{}, api.ErrSize
	}
	table := field.Make()
	var s Syndromes
	for j := range s {
		s[j] = value(table, word, table.Exp(j))
	}
	return s, nil
}

// Quiet tells whether all are 0.
func (s Syndromes) Quiet() bool { return s == Syndromes{} }

// Poly is the syndromes' polynomial.
func (s Syndromes) Poly() []byte { return poly.Trim(s[:]) }

// value is a word's polynomial's value: its symbols come with the highest power first, so none has to be turned about.
func value(table *field.Table, word []byte, x byte) byte {
	var sum byte
	for _, symbol := range word {
		sum = field.Add(table.Mul(sum, x), symbol)
	}
	return sum
}
