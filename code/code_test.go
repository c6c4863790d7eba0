package code

import (
	"bytes"
	"errors"
	"math"
	"slices"
	"testing"

	"bailee/api"
	"bailee/field"
)

// product is the product of (x + alpha to the power j), worked out coefficient by coefficient, that of x to the power 0 first.
func product() []byte {
	p := []byte{1}
	for j := range api.Parity {
		next := make([]byte, len(p)+1)
		for i, a := range p {
			next[i] ^= field.Mul(a, field.Exp(j))
			next[i+1] ^= a
		}
		p = next
	}
	return p
}

// rest is what long division of a word's polynomial by the generator leaves, the highest power first.
func rest(word []byte) []byte {
	left, by := slices.Clone(word), product()
	slices.Reverse(by)
	for i := range len(left) - api.Parity {
		lead := left[i]
		for k, a := range by {
			left[i+k] ^= field.Mul(lead, a)
		}
	}
	return left[len(left)-api.Parity:]
}

// numbers makes numbers that look like chance, the same ones each time.
func numbers(seed uint32) func() byte {
	return func() byte {
		seed = seed*1664525 + 1013904223
		return byte(seed >> 24)
	}
}

// listOf is a list of n numbers.
func listOf(n int, next func() byte) []byte {
	list := make([]byte, n)
	for i := range list {
		list[i] = next()
	}
	return list
}

// samples are data of a length: noughts, the greatest numbers, single ones at both ends, and ones like chance.
func samples(n int) [][]byte {
	first, last := make([]byte, n), make([]byte, n)
	first[0], last[n-1] = 1, 200
	list := [][]byte{make([]byte, n), bytes.Repeat([]byte{255}, n), first, last}
	for seed := range uint32(3) {
		list = append(list, listOf(n, numbers(seed)))
	}
	return list
}

// someLengths are lengths of data: both edges, and what lies between.
func someLengths() []int { return []int{1, 2, 3, 8, 31, 32, 33, 100, 190, 191, 192, 222, 223} }

// noData and noWords are lists whose lengths data and words mustn't have.
func noData() [][]byte {
	return [][]byte{nil, {}, make([]byte, 224), make([]byte, 225), make([]byte, 255), make([]byte, 256), make([]byte, 1<<16+1)}
}

func noWords() [][]byte {
	return [][]byte{nil, {}, {0}, make([]byte, 31), make([]byte, 32), make([]byte, 256), make([]byte, 257), make([]byte, 1<<16+33)}
}

func TestGenerator(t *testing.T) {
	got := Generator()
	if len(got) != 33 || got[32] != 1 || !bytes.Equal(got, product()) {
		t.Fatalf("the generator is %v", got)
	}
	// The coefficients' logarithms, that of x to the power 0 first, as barcodes with 32 parity symbols have them.
	known := []int{
		241, 220, 185, 254, 52, 80, 222, 28, 60, 171, 69, 38, 156, 80, 185, 120, 27,
		89, 123, 242, 32, 138, 138, 209, 67, 4, 167, 249, 190, 106, 6, 10, 0,
	}
	for i, want := range known {
		if log, err := field.Log(got[i]); err != nil || log != want {
			t.Fatalf("the coefficient at %d is alpha to the power %d, %v, not %d", i, log, err, want)
		}
	}
}

func TestParity(t *testing.T) {
	for n := 1; n <= api.Data; n++ {
		for _, data := range samples(n) {
			got, err := Parity(data)
			want := rest(append(slices.Clone(data), make([]byte, api.Parity)...))
			if err != nil || !bytes.Equal(got, want) {
				t.Fatalf("Parity(%v) = %v, %v, not %v", data, got, err, want)
			}
		}
	}
}

func TestParityOfOneIsTheGenerator(t *testing.T) {
	want := product()[:api.Parity]
	slices.Reverse(want)
	if got, err := Parity([]byte{1}); err != nil || !bytes.Equal(got, want) {
		t.Fatalf("Parity(1) = %v, %v, not %v", got, err, want)
	}
}

func TestParityHasAllItsSymbols(t *testing.T) {
	// Behind noughts, and behind what makes the first or last parity symbols noughts, there are 32 all the same.
	for _, data := range [][]byte{{0}, {0, 0, 0}, make([]byte, api.Data)} {
		if got, err := Parity(data); err != nil || !bytes.Equal(got, make([]byte, api.Parity)) {
			t.Fatalf("Parity(%v) = %v, %v", data, got, err)
		}
	}
	var first, last bool
	for b := range 256 {
		got, err := Parity([]byte{1, byte(b)})
		if err != nil || len(got) != api.Parity {
			t.Fatalf("Parity(1, %d) = %v, %v", b, got, err)
		}
		first, last = first || got[0] == 0, last || got[api.Parity-1] == 0
	}
	if !first || !last {
		t.Fatal("no first or no last parity symbol was 0")
	}
}

func TestEncode(t *testing.T) {
	for _, n := range someLengths() {
		for _, data := range samples(n) {
			parity, _ := Parity(data)
			got, err := Encode(data)
			if err != nil || !bytes.Equal(got[:n], data) || !bytes.Equal(got[n:], parity) {
				t.Fatalf("Encode(%v) = %v, %v", data, got, err)
			}
		}
	}
}

func TestDataOfNoLengthForIt(t *testing.T) {
	for _, data := range noData() {
		if got, err := Parity(data); !errors.Is(err, api.ErrSize) || len(got) != 0 {
			t.Fatalf("Parity of %d symbols: %v, %v", len(data), got, err)
		}
		if got, err := Encode(data); !errors.Is(err, api.ErrSize) || len(got) != 0 {
			t.Fatalf("Encode of %d symbols: %v, %v", len(data), got, err)
		}
	}
}

func TestData(t *testing.T) {
	for n := api.Parity + 1; n <= api.Data+api.Parity; n++ {
		word := listOf(n, numbers(uint32(n))) // no code word: its data are told all the same
		if got, err := Data(word); err != nil || !bytes.Equal(got, word[:n-api.Parity]) {
			t.Fatalf("Data(%v) = %v, %v", word, got, err)
		}
	}
	for _, n := range someLengths() {
		for _, data := range samples(n) {
			word, _ := Encode(data)
			if got, err := Data(word); err != nil || !bytes.Equal(got, data) {
				t.Fatalf("Data(%v) = %v, %v, not %v", word, got, err, data)
			}
		}
	}
	for _, word := range noWords() {
		if got, err := Data(word); !errors.Is(err, api.ErrSize) || len(got) != 0 {
			t.Fatalf("Data of %d symbols: %v, %v", len(word), got, err)
		}
	}
}

func TestPower(t *testing.T) {
	for n := -3; n < 300; n++ {
		for place := -3; place < 300; place++ {
			var want byte
			if n >= 33 && n <= 255 && place >= 0 && place < n {
				want = field.Exp(n - 1 - place)
			}
			if got := Power(n, place); got != want {
				t.Fatalf("Power(%d, %d) = %d, not %d", n, place, got, want)
			}
		}
	}
	if Power(33, 32) != 1 || Power(255, 254) != 1 || Power(255, 253) != 2 || Power(40, 31) != 29 {
		t.Fatal("the last place's is 1, that of the one ahead 2, and that of the ninth from the end 29")
	}
}

func TestPowerFarBeyond(t *testing.T) {
	far := []int{math.MinInt, math.MinInt + 1, math.MinInt32, -256, -1, 256, 510, math.MaxInt32, math.MaxInt - 1, math.MaxInt}
	for _, n := range far {
		for _, other := range append(far, 0, 1, 100, 255) {
			if a, b := Power(n, other), Power(other, n); a != 0 || b != 0 {
				t.Fatalf("Power of %d and %d is %d, and %d", n, other, a, b)
			}
		}
	}
}

func TestDiffer(t *testing.T) {
	cases := []struct {
		a, b []byte
		want []int
	}{
		{nil, nil, nil},
		{nil, []byte{}, nil},
		{nil, []byte{1}, nil},
		{[]byte{1, 2, 3}, []byte{1, 2, 3}, nil},
		{[]byte{1, 2, 3}, []byte{1, 2}, nil},
		{[]byte{9, 2, 3}, []byte{1, 2}, nil},
		{[]byte{1, 2, 3}, []byte{0, 2, 3}, []int{0}},
		{[]byte{1, 2, 3}, []byte{1, 2, 255}, []int{2}},
		{[]byte{1, 2, 3}, []byte{3, 1, 2}, []int{0, 1, 2}},
	}
	for _, c := range cases {
		if got := Differ(c.a, c.b); !slices.Equal(got, c.want) {
			t.Errorf("Differ(%v, %v) = %v, not %v", c.a, c.b, got, c.want)
		}
		if got := Differ(c.b, c.a); !slices.Equal(got, c.want) {
			t.Errorf("Differ(%v, %v) = %v, not %v", c.b, c.a, got, c.want)
		}
	}
}

func TestDifferOfWords(t *testing.T) {
	for n := api.Parity + 1; n <= api.Data+api.Parity; n++ {
		next := numbers(uint32(n))
		a := listOf(n, next)
		b, want := slices.Clone(a), []int(nil)
		for i := range b {
			if by := next(); by < 60 {
				b[i] ^= by + 1
				want = append(want, i)
			}
		}
		if got := Differ(a, b); !slices.Equal(got, want) {
			t.Fatalf("Differ(%v, %v) = %v, not %v", a, b, got, want)
		}
		if got := Differ(a, b[1:]); len(got) != 0 {
			t.Fatalf("words of unlike lengths differ at %v", got)
		}
	}
}
