package shuffle

import (
	"bailee/label"
	"bailee/mac"
)

const (
	rounds  = 4  // rounds of a step
	maxBits = 10 // bits of a half, at most
)

// steps makes one key's steps, on and back, of halves of w bits.
type steps struct {
	by *mac.Key
	w  int
}

// stepsOf is the steps of a key.
func stepsOf(key []byte, w int) steps { return steps{mac.Make(key), w} }

// numbersOf is how many numbers two halves of w bits have.
func numbersOf(w int) int { return 1 << (2 * w) }

// bitsFor is how many bits a half has for n places.
func bitsFor(n int) int {
	w := 1
	for numbersOf(w) < n {
		w++
	}
	return w
}

// on is one step.
func (s steps) on(x int) int {
	left, right := s.part(x)
	for round := range rounds {
		left, right = right, left^s.mix(round, right)
	}
	return s.join(left, right)
}

// back is the number that one step takes to x.
func (s steps) back(x int) int {
	left, right := s.part(x)
	for round := rounds - 1; round >= 0; round-- {
		left, right = right^s.mix(round, left), left
	}
	return s.join(left, right)
}

// part is a number's halves.
func (s steps) part(x int) (left, right int) { return x >> s.w, s.low(x) }

// join is the number of two halves.
func (s steps) join(left, right int) int { return left<<s.w | right }

// low is the low half of a number's bits.
func (s steps) low(x int) int { return x & (1<<s.w - 1) }

// mix is the round function.
func (s steps) mix(round, half int) int {
	whole := s.by.Of([]byte{byte(round)}, label.Number(half))
	sum := 0
	for _, b := range whole[:8] {
		// Bits that leave at the top are no loss: the low ones alone are asked for.
		sum = sum<<8 | int(b)
	}
	return s.low(sum)
}
