package poly

import (
	"bytes"
	"errors"
	"slices"
	"testing"

	"bailee/api"
	"bailee/field"
)

// fold is a product, coefficient by coefficient: that of x to the power i is the sum of all whose powers make i.
func fold(p, q []byte) []byte {
	return trimmed(len(p)+len(q), func(i int) byte {
		var sum byte
		for j := range p {
			sum ^= field.Mul(p[j], coefficient(q, i-j))
		}
		return sum
	})
}

// foldAll is the product of (a + b x) over all pairs.
func foldAll(pairs [][2]byte) []byte {
	all := []byte{1}
	for _, pair := range pairs {
		all = fold(all, pair[:])
	}
	return all
}

// rows are lists of numbers: none, single ones, doubled ones, noughts, and all there are.
func rows() [][]byte {
	list := [][]byte{
		nil, {}, {0}, {1}, {255}, {1, 2}, {2, 1}, {0, 0}, {0, 7}, {7, 0}, {9, 9, 9}, {3, 0, 3, 0, 200},
		make([]byte, 40),
	}
	next, all := numbers(7), make([]byte, 256)
	for x := range all {
		all[x] = byte(x)
	}
	for n := 3; n < 50; n += 5 {
		row := make([]byte, n)
		for i := range row {
			row[i] = next()
		}
		list = append(list, row)
	}
	return append(list, all, all[1:])
}

func TestMul(t *testing.T) {
	for _, p := range samples() {
		for _, q := range samples() {
			if got, want := Mul(p, q), fold(p, q); !same(got, want) {
				t.Fatalf("Mul(%v, %v) = %v, not %v", p, q, got, want)
			}
		}
		if got := Mul(p, p); !same(got, fold(p, p)) {
			t.Fatalf("Mul(%v, %v) = %v", p, p, got)
		}
	}
	if got := Mul([]byte{1, 2}, []byte{0, 128}); !same(got, []byte{0, 128, 29}) {
		t.Fatalf("1 + 2 x times 128 x is %v", got)
	}
}

func TestValueOfAProductIsTheProductOfTheValues(t *testing.T) {
	for _, p := range samples() {
		for _, q := range samples()[:24] {
			product := Mul(p, q)
			for i := range 256 {
				x := byte(i)
				if got, want := Eval(product, x), field.Mul(Eval(p, x), Eval(q, x)); got != want {
					t.Fatalf("%v times %v has at %d the value %d, not %d", p, q, x, got, want)
				}
			}
		}
	}
}

// divides holds a quotient and a rest against what they must be.
func divides(t *testing.T, p, q []byte) {
	t.Helper()
	quotient, rest, err := Div(p, q)
	if err != nil || !same(quotient, trimmed(len(quotient), func(i int) byte { return quotient[i] })) {
		t.Fatalf("Div(%v, %v) = %v, %v, %v", p, q, quotient, rest, err)
	}
	product := fold(quotient, q)
	back := trimmed(len(product)+len(rest), func(i int) byte { return coefficient(product, i) ^ coefficient(rest, i) })
	wanted := trimmed(len(p), func(i int) byte { return p[i] })
	if !same(back, wanted) {
		t.Fatalf("Div(%v, %v) = %v, %v: together they are %v", p, q, quotient, rest, back)
	}
	if len(rest) > 0 && rest[len(rest)-1] == 0 || len(rest) > Degree(q) {
		t.Fatalf("Div(%v, %v) leaves %v", p, q, rest)
	}
}

func TestDiv(t *testing.T) {
	for _, p := range samples() {
		for _, q := range samples() {
			if Degree(q) >= 0 {
				divides(t, p, q)
			}
		}
	}
}

func TestDivOfFewCoefficients(t *testing.T) {
	few := []byte{0, 1, 2, 29, 255}
	for i := range 5 * 5 * 5 * 5 {
		p := []byte{few[i%5], few[i/5%5], few[i/25%5], few[i/125]}
		for j := 1; j < 5*5*5; j++ {
			divides(t, p, []byte{few[j%5], few[j/5%5], few[j/25]})
		}
	}
}

func TestDivThatIsKnown(t *testing.T) {
	cases := []struct{ p, q, quotient, rest []byte }{
		{nil, []byte{3}, nil, nil},
		{[]byte{0, 0}, []byte{3, 4}, nil, nil},
		{[]byte{29}, []byte{128}, []byte{2}, nil},
		{[]byte{1, 2}, []byte{1, 2, 3}, nil, []byte{1, 2}},
		{[]byte{1, 2, 0, 0}, []byte{1, 2, 3}, nil, []byte{1, 2}},
		{[]byte{2, 3, 1}, []byte{1, 1}, []byte{2, 1}, nil},
		{[]byte{2, 3, 1, 0}, []byte{1, 1, 0, 0}, []byte{2, 1}, nil},
		{[]byte{7, 3, 1}, []byte{1, 1}, []byte{2, 1}, []byte{5}},
		{[]byte{4, 0, 0, 0, 1}, []byte{0, 0, 1}, []byte{0, 0, 1}, []byte{4}},
		{[]byte{9, 8, 7}, []byte{1}, []byte{9, 8, 7}, nil},
	}
	for _, c := range cases {
		quotient, rest, err := Div(c.p, c.q)
		if err != nil || !same(quotient, c.quotient) || !same(rest, c.rest) {
			t.Errorf("Div(%v, %v) = %v, %v, %v, not %v, %v", c.p, c.q, quotient, rest, err, c.quotient, c.rest)
		}
	}
}

func TestDivByNought(t *testing.T) {
	for _, p := range samples() {
		for _, q := range [][]byte{nil, {}, {0}, {0, 0, 0}, make([]byte, 300)} {
			quotient, rest, err := Div(p, q)
			if !errors.Is(err, api.ErrZero) || len(quotient) != 0 || len(rest) != 0 {
				t.Fatalf("Div(%v, %v) = %v, %v, %v", p, q, quotient, rest, err)
			}
		}
	}
}

func TestDivOfAProduct(t *testing.T) {
	for _, p := range samples() {
		for _, q := range samples() {
			if Degree(q) < 0 {
				continue
			}
			quotient, rest, err := Div(fold(p, q), q)
			if err != nil || !same(quotient, Trim(p)) || len(rest) != 0 {
				t.Fatalf("%v times %v, divided by that again, is %v, %v, %v", p, q, quotient, rest, err)
			}
		}
	}
}

func TestRoots(t *testing.T) {
	for _, row := range rows() {
		var pairs [][2]byte
		for _, r := range row {
			pairs = append(pairs, [2]byte{r, 1})
		}
		got := Roots(row...)
		if !same(got, foldAll(pairs)) || Degree(got) != len(row) {
			t.Fatalf("Roots(%v) = %v", row, got)
		}
		want := slices.Compact(slices.Sorted(slices.Values(row)))
		if zeros := Zeros(got); !bytes.Equal(zeros, want) {
			t.Fatalf("Roots(%v) is 0 at %v", row, zeros)
		}
	}
	if !same(Roots(), []byte{1}) || !same(Roots(1, 2), []byte{2, 3, 1}) {
		t.Fatal("the roots of none, and of 1 and 2")
	}
}

func TestInverses(t *testing.T) {
	for _, row := range rows() {
		var pairs [][2]byte
		var want []byte
		for _, l := range row {
			pairs = append(pairs, [2]byte{1, l})
			if inverse, err := field.Inv(l); err == nil {
				want = append(want, inverse)
			}
		}
		got := Inverses(row...)
		if !same(got, foldAll(pairs)) || Degree(got) != len(want) {
			t.Fatalf("Inverses(%v) = %v", row, got)
		}
		slices.Sort(want)
		if zeros := Zeros(got); !bytes.Equal(zeros, slices.Compact(want)) {
			t.Fatalf("Inverses(%v) is 0 at %v", row, zeros)
		}
	}
	if !same(Inverses(), []byte{1}) || !same(Inverses(1, 2), []byte{1, 3, 2}) || !same(Inverses(0, 5, 0), []byte{1, 5}) {
		t.Fatal("the inverses of none, of 1 and 2, and of noughts")
	}
}
