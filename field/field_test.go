package field

import (
	"errors"
	"math"
	"slices"
	"testing"

	"bailee/api"
)

// product is worked out as the document words it: the product of two polynomials whose coefficients are bits, and the rest of its division by x^8 + x^4 + x^3 + x^2 + 1.
func product(a, b byte) byte {
	long := 0
	for i := range 8 {
		for j := range 8 {
			long ^= int(a>>i&1) * int(b>>j&1) << (i + j)
		}
	}
	for i := 14; i >= 8; i-- {
		if long>>i&1 == 1 {
			long ^= 0x11d << (i - 8)
		}
	}
	return byte(long)
}

// products is all products, by Mul.
func products() *[256][256]byte {
	var all [256][256]byte
	for a := range 256 {
		for b := range 256 {
			all[a][b] = Mul(byte(a), byte(b))
		}
	}
	return &all
}

// powers is a to the powers 0 to 254, by product alone.
func powers(a byte) [255]byte {
	var list [255]byte
	list[0] = 1
	for n := 1; n < 255; n++ {
		list[n] = product(list[n-1], a)
	}
	return list
}

// exponents are edges, and what lies around the places where powers begin anew.
func exponents() []int {
	list := []int{math.MinInt, math.MinInt + 1, math.MinInt32, math.MaxInt32, math.MaxInt - 1, math.MaxInt}
	for n := -520; n <= 520; n++ {
		list = append(list, n)
	}
	return list
}

// rest is n modulo 255, from 0 on.
func rest(n int) int {
	return (n%255 + 255) % 255
}

func TestSumsAndProducts(t *testing.T) {
	for i := range 256 {
		for j := range 256 {
			a, b := byte(i), byte(j)
			if got := Add(a, b); got != a^b {
				t.Fatalf("Add(%d, %d) = %d", a, b, got)
			}
			if got, want := Mul(a, b), product(a, b); got != want {
				t.Fatalf("Mul(%d, %d) = %d, not %d", a, b, got, want)
			}
		}
	}
	if Mul(2, 128) != 29 {
		t.Fatal("2 times 128 is 29")
	}
}

func TestQuotients(t *testing.T) {
	for i := range 256 {
		for j := 1; j < 256; j++ {
			a, b := byte(i), byte(j)
			got, err := Div(a, b)
			if err != nil || product(got, b) != a {
				t.Fatalf("Div(%d, %d) = %d, %v", a, b, got, err)
			}
		}
		if got, err := Div(byte(i), 0); got != 0 || !errors.Is(err, api.ErrZero) {
			t.Fatalf("Div(%d, 0) = %d, %v", i, got, err)
		}
	}
}

func TestInverses(t *testing.T) {
	for i := 1; i < 256; i++ {
		got, err := Inv(byte(i))
		if err != nil || product(got, byte(i)) != 1 {
			t.Fatalf("Inv(%d) = %d, %v", i, got, err)
		}
	}
	if got, err := Inv(0); got != 0 || !errors.Is(err, api.ErrZero) {
		t.Fatalf("Inv(0) = %d, %v", got, err)
	}
}

func TestPowersOfAlpha(t *testing.T) {
	list := powers(2)
	for _, n := range exponents() {
		if got, want := Exp(n), list[rest(n)]; got != want {
			t.Fatalf("Exp(%d) = %d, not %d", n, got, want)
		}
	}
}

func TestLogarithms(t *testing.T) {
	seen := map[byte]bool{}
	for n, a := range powers(2) {
		got, err := Log(a)
		if err != nil || got != n {
			t.Fatalf("Log(%d) = %d, %v, not %d", a, got, err, n)
		}
		seen[a] = true
	}
	if len(seen) != 255 || seen[0] {
		t.Fatal("the powers of alpha are all numbers but 0")
	}
	if got, err := Log(0); got != 0 || !errors.Is(err, api.ErrZero) {
		t.Fatalf("Log(0) = %d, %v", got, err)
	}
}

func TestPowers(t *testing.T) {
	for i := 1; i < 256; i++ {
		list := powers(byte(i))
		for _, n := range exponents() {
			if got, want := Pow(byte(i), n), list[rest(n)]; got != want {
				t.Fatalf("Pow(%d, %d) = %d, not %d", i, n, got, want)
			}
		}
	}
}

func TestPowersBelowNoughtAreTheInverses(t *testing.T) {
	for i := 1; i < 256; i++ {
		inverse, _ := Inv(byte(i))
		for n := 1; n < 600; n++ {
			if got, want := Pow(byte(i), -n), Pow(inverse, n); got != want {
				t.Fatalf("Pow(%d, %d) = %d, not %d", i, -n, got, want)
			}
		}
	}
}

func TestPowersOfNought(t *testing.T) {
	for _, n := range exponents() {
		var want byte
		if n == 0 {
			want = 1
		}
		if got := Pow(0, n); got != want {
			t.Fatalf("Pow(0, %d) = %d, not %d", n, got, want)
		}
	}
}

func TestSum(t *testing.T) {
	all := make([]byte, 256)
	for i := range all {
		all[i] = byte(i)
	}
	cases := []struct {
		list []byte
		want byte
	}{
		{nil, 0},
		{[]byte{}, 0},
		{[]byte{77}, 77},
		{[]byte{1, 2, 4}, 7},
		{[]byte{5, 6}, 3},
		{[]byte{9, 200, 9, 200}, 0},
		{[]byte{255, 255, 255}, 255},
		{all, 0},
		{all[:255], 255},
	}
	for _, c := range cases {
		if got := Sum(c.list...); got != c.want {
			t.Errorf("Sum(%v) = %d, not %d", c.list, got, c.want)
		}
	}
	if Sum() != 0 {
		t.Error("the sum of none is 0")
	}
}

func TestDot(t *testing.T) {
	cases := []struct {
		a, b []byte
		want byte
	}{
		{nil, nil, 0},
		{nil, []byte{1, 2}, 0},
		{[]byte{1, 2}, []byte{}, 0},
		{[]byte{2}, []byte{128}, 29},
		{[]byte{2, 3, 5}, []byte{128, 7, 0}, 29 ^ product(3, 7)},
		{[]byte{2, 3, 5}, []byte{128, 7}, 29 ^ product(3, 7)},
		{[]byte{2, 3}, []byte{128, 7, 255, 255}, 29 ^ product(3, 7)},
		{[]byte{255, 254, 253}, []byte{1, 1, 1}, 255 ^ 254 ^ 253},
	}
	for _, c := range cases {
		if got := Dot(c.a, c.b); got != c.want {
			t.Errorf("Dot(%v, %v) = %d, not %d", c.a, c.b, got, c.want)
		}
		if got := Dot(c.b, c.a); got != c.want {
			t.Errorf("Dot(%v, %v) = %d, not %d", c.b, c.a, got, c.want)
		}
	}
}

func TestListsStayAsTheyWere(t *testing.T) {
	room := []byte{9, 8, 7, 6, 5, 4}
	was := slices.Clone(room)
	Sum(room[:3]...)
	Dot(room[:2], room[2:4])
	Dot(room[:4], room[1:2])
	if !slices.Equal(room, was) {
		t.Fatalf("%v became %v", was, room)
	}
}

func TestSumsAreThoseOfAField(t *testing.T) {
	for a := range 256 {
		x := byte(a)
		if Add(x, 0) != x || Add(x, x) != 0 {
			t.Fatalf("0, or what is against %d", a)
		}
		for b := range 256 {
			y := byte(b)
			if Add(x, y) != Add(y, x) {
				t.Fatalf("the order of %d and %d", a, b)
			}
			for c := range 256 {
				z := byte(c)
				if Add(Add(x, y), z) != Add(x, Add(y, z)) {
					t.Fatalf("the groups of %d, %d, %d", a, b, c)
				}
			}
		}
	}
}

func TestProductsAreThoseOfAField(t *testing.T) {
	all := products()
	for a := range 256 {
		if all[a][1] != byte(a) || all[a][0] != 0 {
			t.Fatalf("1 and 0 times %d", a)
		}
		for b := range 256 {
			if all[a][b] != all[b][a] {
				t.Fatalf("the order of %d and %d", a, b)
			}
			if a != 0 && b != 0 && all[a][b] == 0 {
				t.Fatalf("%d times %d is 0", a, b)
			}
			for c := range 256 {
				if all[all[a][b]][c] != all[a][all[b][c]] {
					t.Fatalf("the groups of %d, %d, %d", a, b, c)
				}
				if all[a][Add(byte(b), byte(c))] != Add(all[a][b], all[a][c]) {
					t.Fatalf("%d times the sum of %d and %d", a, b, c)
				}
			}
		}
	}
}

func TestEachNumberButNoughtHasOneInverse(t *testing.T) {
	seen := map[byte]bool{}
	for i := 1; i < 256; i++ {
		a := byte(i)
		inverse, err := Inv(a)
		if err != nil || Mul(a, inverse) != 1 || Mul(inverse, a) != 1 {
			t.Fatalf("Inv(%d) = %d, %v", a, inverse, err)
		}
		back, err := Inv(inverse)
		if err != nil || back != a {
			t.Fatalf("Inv(Inv(%d)) = %d, %v", a, back, err)
		}
		seen[inverse] = true
	}
	if len(seen) != 255 || seen[0] {
		t.Fatal("the inverses are all numbers but 0")
	}
}
