package locate

import (
	"bailee/field"
	"bailee/poly"
)

// Register is a shortest register.
func Register(s []byte) ([]byte, int) {
	feed, told := register()
	for i := range s {
		feed(s[:i+1])
	}
	return told()
}

// register is a shortest register for a row that grows: feed takes the row with one number more each time, told answers polynomial and length.
func register() (feed func([]byte), told func() ([]byte, int)) {
	table := field.Make()
	now, length := []byte{1}, 0
	// The polynomial ahead of the last change of length mends this one: it was wrong by a number, too, some numbers ago.
	old, wrong, ago := []byte{1}, byte(1), 0

	// off is what the last number of a row has too much for the register.
	off := func(row []byte) byte {
		var sum byte
		for j, c := range now {
			sum = field.Add(sum, table.Mul(c, row[len(row)-1-j]))
		}
		return sum
	}
	// mended is the polynomial plus the old one times a number and a power of x (which may be greater than poly's Shift takes).
	mended := func(by byte) []byte {
		sum := make([]byte, max(len(now), ago+len(old)))
		copy(sum, now)
		for j, c := range old {
			sum[ago+j] = field.Add(sum[ago+j], table.Mul(c, by))
		}
		return sum
	}
	feed = func(row []byte) {
		ago++
		by := off(row)
		if by == 0 {
			return
		}
		next := mended(table.Div(by, wrong))
		if 2*length < len(row) {
			old, wrong, ago, length = now, by, 0, len(row)-length
		}
		now = next
	}
	told = func() ([]byte, int) { return poly.Trim(now), length }
	return feed, told
}
