package field

// Table is the powers of alpha, and which power each number is.
type Table struct {
	// Twice around: so the sum of two logarithms needs no division.
	exp [2 * order]byte
	log [256]int
}

// Make makes a table.
func Make() *Table {
	t := &Table{}
	t.log[0] = -1
	power := byte(1)
	for n := range order {
		t.exp[n], t.exp[n+order] = power, power
		t.log[power] = n
		power = double(power)
	}
	return t
}

// Mul is a product.
func (t *Table) Mul(a, b byte) byte {
	if a == 0 || b == 0 {
		return 0
	}
	return t.exp[t.log[a]+t.log[b]]
}

// Div is a quotient.
func (t *Table) Div(a, b byte) byte {
	if a == 0 || b == 0 {
		return 0
	}
	return t.exp[t.log[a]-t.log[b]+order]
}

// Exp is a power of alpha.
func (t *Table) Exp(n int) byte { return t.exp[turn(n)] }

// Log is which power of alpha a number is.
func (t *Table) Log(a byte) int { return t.log[a] }
