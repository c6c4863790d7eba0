package locate

import (
	"bytes"
	"slices"
	"testing"

	"bailee/field"
	"bailee/poly"
)

// produces tells whether a register makes a row: by the document's words, for all numbers from its length on.
func produces(p []byte, length int, s []byte) bool {
	if len(p) == 0 || p[0] != 1 || p[len(p)-1] == 0 || len(p) > length+1 {
		return false
	}
	for i := length; i < len(s); i++ {
		var sum byte
		for j := 1; j < len(p); j++ {
			sum ^= field.Mul(p[j], s[i-j])
		}
		if sum != s[i] {
			return false
		}
	}
	return true
}

// least is the least length of a register for a row: the first for which the equations have a solution.
func least(s []byte) int {
	for length := range s {
		var rows [][]byte
		for i := length; i < len(s); i++ {
			row := slices.Clone(s[i-length : i+1])
			slices.Reverse(row[:length])
			rows = append(rows, row)
		}
		if solvable(rows, length) {
			return length
		}
	}
	return len(s)
}

// solvable tells whether equations in so many unknowns, with their right side as the last number, have a solution.
func solvable(rows [][]byte, unknowns int) bool {
	for column := range unknowns {
		lead := slices.IndexFunc(rows, func(row []byte) bool { return row[column] != 0 })
		if lead < 0 {
			continue
		}
		first := rows[lead]
		rows = slices.Delete(rows, lead, lead+1)
		for _, row := range rows {
			by, _ := field.Div(row[column], first[column])
			for i, a := range first {
				row[i] ^= field.Mul(a, by)
			}
		}
	}
	return !slices.ContainsFunc(rows, func(row []byte) bool { return row[unknowns] != 0 })
}

// shortest holds Register's answer of a row against what it must be.
func shortest(t *testing.T, s []byte) {
	t.Helper()
	p, length := Register(s)
	if want := least(s); length != want || !produces(p, length, s) {
		t.Fatalf("Register(%v) = %v, %d; the least length is %d", s, p, length, want)
	}
}

func TestRegisterOfShortRows(t *testing.T) {
	few := []byte{0, 1, 2, 255}
	for n := range 8 {
		count := 1
		for range n {
			count *= len(few)
		}
		for i := range count {
			s := make([]byte, n)
			for j := range s {
				s[j] = few[i%len(few)]
				i /= len(few)
			}
			shortest(t, s)
		}
	}
}

func TestRegisterOfRowsLikeChance(t *testing.T) {
	next := numbers(5)
	for n := range 45 {
		for _, many := range []int{2, 3, 256} {
			s := make([]byte, n)
			for i := range s {
				s[i] = byte(next() % many)
			}
			shortest(t, s)
		}
	}
}

// made is a row of n numbers that begins with some, and goes on by a register.
func made(n int, begins, c []byte) []byte {
	s := slices.Clone(begins)
	for i := len(begins); i < n; i++ {
		var sum byte
		for j, a := range c {
			sum ^= field.Mul(a, s[i-1-j])
		}
		s = append(s, sum)
	}
	return s
}

func TestRegisterOfRowsThatARegisterMade(t *testing.T) {
	next := numbers(6)
	for length := range 20 {
		for n := length; n < 2*length+6; n++ {
			begins, c := make([]byte, length), make([]byte, length)
			for i := range begins {
				begins[i], c[i] = byte(next()), byte(next()%5)
			}
			s := made(n, begins, c)
			shortest(t, s)
			if p, _ := Register(s); least(s) == length && n >= 2*length && !bytes.Equal(p, poly.Trim(append([]byte{1}, c...))) {
				t.Fatalf("Register(%v) = %v, and %v made it", s, p, c)
			}
		}
	}
}

func TestRegisterOfLongRows(t *testing.T) {
	for _, length := range []int{999, 1000, 1001, 1500} {
		begins, c := make([]byte, length), make([]byte, length)
		begins[length-1], c[length-1], c[3] = 1, 3, 7
		s := made(2*length+10, begins, c)
		p, got := Register(s)
		if got != length || !bytes.Equal(p, append([]byte{1}, c...)) || !produces(p, got, s) {
			t.Fatalf("the register for a row that one of length %d made has the length %d", length, got)
		}
		p, got = Register(s[:length])
		if got != length || !produces(p, got, s[:length]) {
			t.Fatalf("the register for %d noughts and a 1 has the length %d", length-1, got)
		}
	}
}

func TestRegistersThatAreKnown(t *testing.T) {
	cases := []struct {
		s, want []byte
		length  int
	}{
		{nil, []byte{1}, 0},
		{[]byte{}, []byte{1}, 0},
		{[]byte{0}, []byte{1}, 0},
		{make([]byte, 100), []byte{1}, 0},
		{[]byte{1, 0}, []byte{1}, 1},
		{[]byte{1, 0, 0, 0}, []byte{1}, 1},
		{[]byte{0, 5, 0, 0, 0}, []byte{1}, 2},
		{[]byte{9, 9, 9}, []byte{1, 1}, 1},
		{[]byte{1, 2, 4, 8}, []byte{1, 2}, 1},
		{[]byte{0, 1, 1, 0, 1, 1}, []byte{1, 1, 1}, 2},
		{[]byte{1, 0, 3, 0, 5}, []byte{1, 0, 3}, 2},
	}
	for _, c := range cases {
		if p, length := Register(c.s); !bytes.Equal(p, c.want) || length != c.length {
			t.Errorf("Register(%v) = %v, %d, not %v, %d", c.s, p, length, c.want, c.length)
		}
	}
	for n := 1; n < 40; n++ {
		if _, length := Register(append(make([]byte, n-1), 200)); length != n {
			t.Errorf("noughts with one number at the end need all %d, not %d", n, length)
		}
	}
}
