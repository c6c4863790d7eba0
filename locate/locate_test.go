package locate

import (
	"bytes"
	"errors"
	"math"
	"slices"
	"testing"

	"bailee/api"
	"bailee/code"
	"bailee/field"
)

// numbers makes numbers that look like chance, the same ones each time.
func numbers(seed uint32) func() int {
	return func() int {
		seed = seed*1664525 + 1013904223
		return int(seed >> 8)
	}
}

// some are how many of 0 to n - 1 in an order that looks like chance.
func some(n, how int, next func() int) []int {
	all := make([]int, n)
	for i := range all {
		all[i] = i
	}
	for i := range all {
		j := i + next()%(n-i)
		all[i], all[j] = all[j], all[i]
	}
	return all[:how]
}

// upTo are 0 to n - 1.
func upTo(n int) []int { return some(n, n, func() int { return 0 }) }

// trimmed is a list without the noughts at its end.
func trimmed(p []byte) []byte {
	for len(p) > 0 && p[len(p)-1] == 0 {
		p = p[:len(p)-1]
	}
	return p
}

// product is the trimmed product of two polynomials.
func product(p, q []byte) []byte {
	sum := make([]byte, len(p)+len(q))
	for i, a := range p {
		for j, b := range q {
			sum[i+j] ^= field.Mul(a, b)
		}
	}
	return trimmed(sum)
}

// value is a polynomial's value.
func value(p []byte, x byte) byte {
	var sum byte
	for i, a := range p {
		sum ^= field.Mul(a, field.Pow(x, i))
	}
	return sum
}

// stands is the value that stands for a place in words of n symbols.
func stands(n, place int) byte { return field.Pow(2, n-1-place) }

// locator is the product of (1 + X x) over the values that stand for places.
func locator(n int, places []int) []byte {
	all := []byte{1}
	for _, place := range places {
		all = product(all, []byte{1, stands(n, place)})
	}
	return all
}

// lengths are lengths of words: both edges, and what lies between.
func lengths() []int { return []int{33, 34, 35, 40, 64, 65, 100, 128, 223, 224, 254, 255} }

func TestErasures(t *testing.T) {
	for n := 33; n <= 255; n++ {
		for e := range 33 {
			places := some(n, e, numbers(uint32(n*33+e)))
			got, err := Erasures(n, places)
			if err != nil || !bytes.Equal(got, locator(n, places)) || len(got) != e+1 {
				t.Fatalf("Erasures(%d, %v) = %v, %v, not %v", n, places, got, err, locator(n, places))
			}
		}
	}
}

func TestErasuresThatAreKnown(t *testing.T) {
	cases := []struct {
		n      int
		places []int
		want   []byte
	}{
		{33, nil, []byte{1}},
		{255, []int{}, []byte{1}},
		{33, []int{32}, []byte{1, 1}},
		{255, []int{254}, []byte{1, 1}},
		{40, []int{38}, []byte{1, 2}},
		{40, []int{31}, []byte{1, 29}},
		{40, []int{39, 38}, []byte{1, 3, 2}},
		{40, []int{38, 39}, []byte{1, 3, 2}},
		{255, []int{0}, []byte{1, 142}}, // alpha to the power 254: the inverse of 2
	}
	for _, c := range cases {
		if got, err := Erasures(c.n, c.places); err != nil || !bytes.Equal(got, c.want) {
			t.Errorf("Erasures(%d, %v) = %v, %v, not %v", c.n, c.places, got, err, c.want)
		}
	}
}

// faults are calls of Erasures that are wrong, with the error that comes first.
func faults() map[error][]call {
	all, far := upTo(255), []int{math.MinInt, math.MinInt32, -1, 40, 41, 255, 256, math.MaxInt32, math.MaxInt}
	list := map[error][]call{
		api.ErrDup: {
			{40, []int{1, 1}}, {40, []int{0, 0}}, {40, []int{39, 39}}, {40, []int{3, 4, 5, 3}}, {255, []int{254, 0, 254}},
			{40, append(upTo(32), 31)}, {255, append(upTo(255), 0)}, {33, append(upTo(33), 32)}, {255, make([]int, 1000)},
		},
		api.ErrSpare: {{33, upTo(33)}, {40, upTo(33)}, {40, upTo(40)}, {255, all}, {255, all[222:]}, {34, all[1:34]}},
	}
	for _, n := range []int{math.MinInt, -40, -1, 0, 1, 31, 32, 256, 257, 512, math.MaxInt32, math.MaxInt} {
		for _, places := range [][]int{nil, {0}, {0, 0}, {-1}, far, all, make([]int, 1000)} {
			list[api.ErrSize] = append(list[api.ErrSize], call{n, places})
		}
	}
	for _, place := range far {
		for _, places := range [][]int{nil, {0}, {1, 2, 3}, {5, 5}, all[:32], all[:40]} {
			list[api.ErrRange] = append(list[api.ErrRange],
				call{40, append([]int{place}, places...)}, call{40, append(slices.Clone(places), place)}, call{40, append([]int{place, place}, places...)})
		}
	}
	return list
}

type call struct {
	n      int
	places []int
}

func TestWrongErasures(t *testing.T) {
	for want, calls := range faults() {
		for _, c := range calls {
			if got, err := Erasures(c.n, c.places); !errors.Is(err, want) || len(got) != 0 {
				t.Errorf("Erasures(%d, %v) = %v, %v, not %v", c.n, c.places, got, err, want)
			}
			// That the syndromes lead nowhere is told behind what is wrong with the places.
			for _, s := range []code.Syndromes{{}, {1}, noise(3)} {
				found, err := Find(s, c.n, c.places)
				if !errors.Is(err, want) || found.Errors != 0 || len(found.Locator) != 0 || len(found.Evaluator) != 0 {
					t.Errorf("Find(%v, %d, %v) = %v, %v, not %v", s, c.n, c.places, found, err, want)
				}
			}
		}
	}
}

// noise are syndromes that look like chance.
func noise(seed uint32) code.Syndromes {
	var s code.Syndromes
	next := numbers(seed)
	for i := range s {
		s[i] = byte(next())
	}
	return s
}

// forney is the forney syndromes by the document's words: of a product's coefficients those at e to Parity - 1.
func forney(s code.Syndromes, erasures []byte) []byte {
	e := len(trimmed(erasures)) - 1
	var row []byte
	for power := e; power < api.Parity; power++ {
		var sum byte
		for i, a := range erasures {
			if power-i >= 0 && power-i < api.Parity {
				sum ^= field.Mul(a, s[power-i])
			}
		}
		row = append(row, sum)
	}
	return row
}

// polynomials are some of each degree from that of 0 on, a few with noughts at the end, and a few beyond Parity.
func polynomials() [][]byte {
	list := [][]byte{nil, {}, {0}, make([]byte, 100), {1}, {7}, {0, 0, 3}, {1, 0}, {5, 6, 0, 0}}
	next := numbers(77)
	for n := 1; n < 40; n++ {
		p := make([]byte, n)
		for i := range p {
			p[i] = byte(next())
		}
		p[n-1] |= 1
		list = append(list, p, append(slices.Clone(p), make([]byte, 50)...), append(make([]byte, n-1), 9))
	}
	return append(list, append(make([]byte, 5000), 1))
}

func TestForney(t *testing.T) {
	all := []code.Syndromes{{}, {1}, {31: 1}, {0, 0, 5}, noise(1), noise(2), noise(3)}
	for _, s := range all {
		for _, p := range polynomials() {
			got := Forney(s, p)
			if want := forney(s, p); !bytes.Equal(got, want) {
				t.Fatalf("Forney(%v, %v) = %v, not %v", s, p, got, want)
			}
			if degree := len(trimmed(p)) - 1; len(got) != max(api.Parity-degree, 0) {
				t.Fatalf("Forney(%v, %v) has %d numbers", s, p, len(got))
			}
		}
		if got := Forney(s, []byte{1}); !bytes.Equal(got, s[:]) {
			t.Fatalf("with nothing erased they are the syndromes: %v, not %v", got, s)
		}
	}
	if got := Forney(code.Syndromes{1, 2, 4}, []byte{1, 2}); !bytes.Equal(got, append([]byte{0, 0, 8}, make([]byte, 28)...)) {
		t.Fatalf("1, 2 and 4 times 1 and 2 is %v from the power 1 on", got)
	}
}

func TestForneyOfErasedPlacesAlone(t *testing.T) {
	for _, n := range lengths() {
		for e := range 33 {
			next := numbers(uint32(n + e))
			word, places := changed(t, n, e, 0, next)
			s, _ := code.Of(word)
			got := Forney(s, locator(n, places))
			if !bytes.Equal(got, make([]byte, 32-e)) {
				t.Fatalf("of a word of %d symbols, changed at %v, they are %v", n, places, got)
			}
		}
	}
}
