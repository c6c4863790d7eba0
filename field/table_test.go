package field

import "testing"

func TestTableProductsAndQuotients(t *testing.T) {
	table := Make()
	for i := range 256 {
		for j := range 256 {
			a, b := byte(i), byte(j)
			if got, want := table.Mul(a, b), product(a, b); got != want {
				t.Fatalf("Mul(%d, %d) = %d, not %d", a, b, got, want)
			}
			got := table.Div(a, b)
			if b == 0 && got != 0 || b != 0 && product(got, b) != a {
				t.Fatalf("Div(%d, %d) = %d", a, b, got)
			}
		}
	}
}

func TestTablePowers(t *testing.T) {
	table, list := Make(), powers(2)
	for _, n := range exponents() {
		if got, want := table.Exp(n), list[rest(n)]; got != want {
			t.Fatalf("Exp(%d) = %d, not %d", n, got, want)
		}
	}
	for n, a := range list {
		if got := table.Log(a); got != n {
			t.Fatalf("Log(%d) = %d, not %d", a, got, n)
		}
	}
	if got := table.Log(0); got != -1 {
		t.Fatalf("Log(0) = %d", got)
	}
}

func TestTableIsItsMakersAlone(t *testing.T) {
	spoiled, kept := Make(), Make()
	*spoiled = Table{}
	for _, table := range []*Table{kept, Make()} {
		if table.Mul(2, 128) != 29 || table.Log(0) != -1 || table.Exp(255) != 1 {
			t.Fatal("writing over a table changed another one")
		}
	}
}

func TestTableOfNoughtsDoesNotPanic(t *testing.T) {
	var table Table
	for i := range 256 {
		for j := range 256 {
			table.Mul(byte(i), byte(j))
			table.Div(byte(i), byte(j))
		}
		table.Log(byte(i))
	}
	for _, n := range exponents() {
		table.Exp(n)
	}
}
