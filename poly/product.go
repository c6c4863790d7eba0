package poly

import (
	"iter"

	"bailee/api"
	"bailee/field"
)

// Mul is a product.
func Mul(p, q []byte) []byte { return multiply(field.Make(), p, q) }

// Div is a quotient, and the rest.
func Div(p, q []byte) ([]byte, []byte, error) {
	q = cut(q)
	if len(q) == 0 {
		return nil, nil, api.ErrZero
	}
	table, top, rest := field.Make(), len(q)-1, Trim(p)
	quotient := make([]byte, max(len(rest)-top, 0))
	// What is added at a term clears it, and changes only what is below: terms has yet to come there.
	for i, a := range terms(rest) {
		if i < top {
			break
		}
		by := table.Div(a, q[top])
		quotient[i-top] = by
		addScaled(table, rest[i-top:], q, by)
	}
	return quotient, cut(rest), nil
}

// Roots is the polynomial of roots.
func Roots(roots ...byte) []byte {
	return multiplyAll(func(yield func([]byte) bool) {
		for _, r := range roots {
			if !yield([]byte{r, 1}) {
				return
			}
		}
	})
}

// Inverses is the polynomial whose roots are the inverses of numbers.
func Inverses(places ...byte) []byte {
	return multiplyAll(func(yield func([]byte) bool) {
		for _, l := range places {
			if !yield([]byte{1, l}) {
				return
			}
		}
	})
}

// terms goes through the coefficients that aren't 0, with their places, from the last one down.
func terms(p []byte) iter.Seq2[int, byte] {
	return func(yield func(int, byte) bool) {
		for i := len(p) - 1; i >= 0; i-- {
			if p[i] != 0 && !yield(i, p[i]) {
				return
			}
		}
	}
}

// multiplyAll is the product of all factors; 1 of none.
func multiplyAll(factors iter.Seq[[]byte]) []byte {
	table, all := field.Make(), []byte{1}
	for factor := range factors {
		all = multiply(table, all, factor)
	}
	return all
}

// multiply is a product, looked up.
func multiply(table *field.Table, p, q []byte) []byte {
	p, q = cut(p), cut(q)
	product := make([]byte, len(p)+len(q))
	for i, a := range terms(p) {
		addScaled(table, product[i:], q, a)
	}
	return cut(product)
}

// addScaled adds a polynomial times a number to a sum that has room for it.
func addScaled(table *field.Table, sum, p []byte, by byte) {
	for i, a := range p {
		sum[i] = field.Add(sum[i], table.Mul(a, by))
	}
}
