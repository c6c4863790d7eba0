// Package field is layer 1: see shared/doc/01-field.md.
package field

import "bailee/api"

const (
	alpha  = 2
	order  = 255  // how many powers of alpha there are
	modulo = 0x1d // 0x11d without the bit that a byte has no room for
)

// Add is a sum.
func Add(a, b byte) byte { return a ^ b }

// Mul is a product.
func Mul(a, b byte) byte {
	var product byte
	for ; b != 0; b >>= 1 {
		if b&1 == 1 {
			product ^= a
		}
		a = double(a)
	}
	return product
}

// Div is a quotient.
func Div(a, b byte) (byte, error) {
	inverse, err := Inv(b)
	if err != nil {
		return 0, err
	}
	return Mul(a, inverse), nil
}

// Inv is an inverse.
func Inv(a byte) (byte, error) {
	if a == 0 {
		return 0, api.ErrZero
	}
	return Pow(a, -1), nil
}

// Exp is a power of alpha.
func Exp(n int) byte { return Pow(alpha, n) }

// Log is which power of alpha a number is.
func Log(a byte) (int, error) {
	if a == 0 {
		return 0, api.ErrZero
	}
	n := 0
	for power := byte(1); power != a; power = double(power) {
		n++
	}
	return n, nil
}

// Pow is a power.
func Pow(a byte, n int) byte {
	if a == 0 {
		return powOfZero(n)
	}
	power := byte(1)
	// Any number but 0 to the power 255 is 1: so exponents below 0 need no inverse.
	for left := turn(n); left > 0; left >>= 1 {
		if left&1 == 1 {
			power = Mul(power, a)
		}
		a = Mul(a, a)
	}
	return power
}

// Sum is a sum of all.
func Sum(list ...byte) byte {
	var sum byte
	for _, a := range list {
		sum = Add(sum, a)
	}
	return sum
}

// Dot is the sum of products.
func Dot(a, b []byte) byte {
	var sum byte
	for i := range min(len(a), len(b)) {
		sum = Add(sum, Mul(a[i], b[i]))
	}
	return sum
}

// double is a number times alpha.
func double(a byte) byte {
	if a&0x80 != 0 {
		return a<<1 ^ modulo
	}
	return a << 1
}

// turn is an exponent modulo 255, from 0 on.
func turn(n int) int {
	n %= order
	if n < 0 {
		n += order
	}
	return n
}

func powOfZero(n int) byte {
	if n == 0 {
		return 1
	}
	return 0
}
