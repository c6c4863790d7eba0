package poly

import (
	"bytes"
	"math"
	"testing"

	"bailee/field"
)

// same is whether a trimmed polynomial is the one that is wanted.
func same(got, want []byte) bool {
	return bytes.Equal(got, want) && (len(got) == 0 || got[len(got)-1] != 0)
}

// coefficient is that of x to the power i, of any i.
func coefficient(p []byte, i int) byte {
	if i < 0 || i >= len(p) {
		return 0
	}
	return p[i]
}

// trimmed makes a trimmed polynomial of a rule that tells its coefficients below x to the power n.
func trimmed(n int, rule func(i int) byte) []byte {
	var p []byte
	for i := range max(n, 0) {
		if a := rule(i); a != 0 {
			p = append(p, make([]byte, i+1-len(p))...)
			p[i] = a
		}
	}
	return p
}

// numbers makes numbers that look like chance, the same ones each time.
func numbers(seed uint32) func() byte {
	return func() byte {
		seed = seed*1664525 + 1013904223
		return byte(seed >> 24)
	}
}

// samples are edges, and polynomials of many lengths: full ones, ones with few terms, ones with noughts at the end.
func samples() [][]byte {
	list := [][]byte{
		nil, {}, {0}, {0, 0, 0}, {1}, {255}, {0, 1}, {0, 0, 1}, {1, 1}, {7, 0}, {7, 5, 3}, {0, 9, 0, 4, 0, 0},
		{2, 3, 1}, {1, 0, 0, 0, 0, 0, 0, 0, 1}, bytes.Repeat([]byte{255}, 33), make([]byte, 300),
	}
	next := numbers(1)
	for _, n := range []int{2, 3, 4, 5, 8, 31, 32, 33, 64, 255, 256} {
		full, few, tail := make([]byte, n), make([]byte, n), make([]byte, n)
		for i := range n {
			full[i] = next()
			if next() < 40 {
				few[i] = next()
			}
			if i < n/2 {
				tail[i] = next()
			}
		}
		list = append(list, full, few, tail)
	}
	return list
}

func TestTrim(t *testing.T) {
	cases := []struct{ p, want []byte }{
		{nil, nil},
		{[]byte{}, nil},
		{[]byte{0}, nil},
		{[]byte{0, 0, 0}, nil},
		{[]byte{5}, []byte{5}},
		{[]byte{5, 0}, []byte{5}},
		{[]byte{0, 5}, []byte{0, 5}},
		{[]byte{0, 5, 0, 0, 255, 0, 0}, []byte{0, 5, 0, 0, 255}},
	}
	for _, c := range cases {
		if got := Trim(c.p); !same(got, c.want) {
			t.Errorf("Trim(%v) = %v, not %v", c.p, got, c.want)
		}
	}
}

func TestDegree(t *testing.T) {
	cases := []struct {
		p    []byte
		want int
	}{
		{nil, -1},
		{[]byte{}, -1},
		{[]byte{0}, -1},
		{make([]byte, 300), -1},
		{[]byte{1}, 0},
		{[]byte{9, 0, 0}, 0},
		{[]byte{0, 1}, 1},
		{[]byte{1, 2, 3, 0}, 2},
		{append(make([]byte, 299), 1), 299},
	}
	for _, c := range cases {
		if got := Degree(c.p); got != c.want {
			t.Errorf("Degree(%v) = %d, not %d", c.p, got, c.want)
		}
	}
}

func TestAdd(t *testing.T) {
	for _, p := range samples() {
		for _, q := range samples() {
			want := trimmed(max(len(p), len(q)), func(i int) byte { return coefficient(p, i) ^ coefficient(q, i) })
			if got := Add(p, q); !same(got, want) {
				t.Fatalf("Add(%v, %v) = %v, not %v", p, q, got, want)
			}
		}
		if got := Add(p, p); len(got) != 0 {
			t.Fatalf("Add(%v, %v) = %v", p, p, got)
		}
	}
	if got := Add([]byte{1, 2, 3}, []byte{0, 4, 3}); !same(got, []byte{1, 6}) {
		t.Fatalf("the last ones are the same, and the sum is %v", got)
	}
}

func TestScale(t *testing.T) {
	for _, p := range samples() {
		for by := range 256 {
			want := trimmed(len(p), func(i int) byte { return field.Mul(p[i], byte(by)) })
			if got := Scale(p, byte(by)); !same(got, want) {
				t.Fatalf("Scale(%v, %d) = %v, not %v", p, by, got, want)
			}
		}
	}
}

func TestShift(t *testing.T) {
	for _, p := range samples() {
		for n, by := range map[int]int{
			math.MinInt: 0, math.MinInt32: 0, -1: 0, 0: 0, 1: 1, 2: 2, 33: 33, 999: 999, 1000: 1000,
			1001: 1000, 1 << 20: 1000, math.MaxInt32: 1000, math.MaxInt: 1000,
		} {
			want := trimmed(len(p)+by, func(i int) byte { return coefficient(p, i-by) })
			if got := Shift(p, n); !same(got, want) {
				t.Fatalf("Shift(%v, %d) = %v, not %v", p, n, got, want)
			}
		}
	}
}

func TestLow(t *testing.T) {
	for _, p := range samples() {
		for _, n := range []int{math.MinInt, -1, 0, 1, 2, 3, 32, len(p) - 1, len(p), len(p) + 1, 1000, math.MaxInt} {
			want := trimmed(min(n, len(p)), func(i int) byte { return p[i] })
			if got := Low(p, n); !same(got, want) {
				t.Fatalf("Low(%v, %d) = %v, not %v", p, n, got, want)
			}
		}
	}
	if got := Low([]byte{4, 0, 0, 9}, 3); !same(got, []byte{4}) {
		t.Fatalf("noughts came to the end, and what is left is %v", got)
	}
}

func TestLowTakesNothingFromBehind(t *testing.T) {
	room := []byte{1, 2, 3, 4}
	if got := Low(room[:2], 4); !same(got, []byte{1, 2}) {
		t.Fatalf("the room behind a list is no part of it, and Low is %v", got)
	}
}

func TestEval(t *testing.T) {
	for _, p := range samples() {
		for i := range 256 {
			x, want := byte(i), byte(0)
			for power, a := range p {
				want ^= field.Mul(a, field.Pow(x, power))
			}
			if got := Eval(p, x); got != want {
				t.Fatalf("Eval(%v, %d) = %d, not %d", p, x, got, want)
			}
		}
	}
	if Eval(nil, 5) != 0 || Eval([]byte{6, 5}, 0) != 6 || Eval([]byte{1, 1}, 1) != 0 {
		t.Fatal("0, the value at 0, and at a root")
	}
}

func TestSlope(t *testing.T) {
	for _, p := range samples() {
		want := trimmed(len(p), func(i int) byte {
			if i%2 == 0 {
				return coefficient(p, i+1)
			}
			return 0
		})
		if got := Slope(p); !same(got, want) {
			t.Fatalf("Slope(%v) = %v, not %v", p, got, want)
		}
	}
	if got := Slope([]byte{7, 5, 3}); !same(got, []byte{5}) {
		t.Fatalf("Slope(7, 5, 3) = %v", got)
	}
}

func TestSlopeOfAProduct(t *testing.T) {
	for _, p := range samples() {
		for _, q := range samples()[:24] {
			want := Add(Mul(Slope(p), q), Mul(p, Slope(q)))
			if got := Slope(Mul(p, q)); !same(got, want) {
				t.Fatalf("Slope(%v times %v) = %v, not %v", p, q, got, want)
			}
		}
	}
}

func TestZeros(t *testing.T) {
	for _, p := range samples() {
		var want []byte
		for x := range 256 {
			if Eval(p, byte(x)) == 0 {
				want = append(want, byte(x))
			}
		}
		if got := Zeros(p); !bytes.Equal(got, want) {
			t.Fatalf("Zeros(%v) = %v, not %v", p, got, want)
		}
	}
}

func TestZerosThatAreKnown(t *testing.T) {
	all := make([]byte, 256)
	for x := range all {
		all[x] = byte(x)
	}
	// x to the power 255 is 1 of each number but 0.
	circle := append(make([]byte, 255), 1)
	circle[0] = 1
	cases := []struct{ p, want []byte }{
		{nil, all},
		{[]byte{0, 0}, all},
		{[]byte{1}, nil},
		{[]byte{200, 0}, nil},
		{[]byte{0, 3}, []byte{0}},
		{[]byte{0, 255, 255}, []byte{0, 1}},
		{[]byte{2, 3, 1}, []byte{1, 2}},
		{[]byte{1, 0, 1}, []byte{1}},
		{circle, all[1:]},
		{append([]byte{0}, circle...), all},
	}
	for _, c := range cases {
		if got := Zeros(c.p); !bytes.Equal(got, c.want) {
			t.Errorf("Zeros(%v) = %v, not %v", c.p, got, c.want)
		}
	}
}
