package params

import "bailee/api"

// widths is how many bytes each value has, in the order of valuesOf.
var widths = [6]int{2, 1, 1, 2, 2, 1}

// length is how many bytes parameters have: all widths together.
const length = 9

// Bytes is parameters' bytes.
func Bytes(p Params) ([]byte, error) {
	if err := Check(p); err != nil {
		return nil, err
	}
	b := make([]byte, 0, length)
	for i, value := range valuesOf(p) {
		if widths[i] == 2 {
			b = append(b, byte(value>>8))
		}
		b = append(b, byte(value))
	}
	return b, nil
}

// Parse is the parameters of bytes.
func Parse(b []byte) (Params, error) {
	if len(b) != length {
		return Params{}, api.ErrSize
	}
	var values [6]int
	for i, width := range widths {
		for _, digit := range b[:width] {
			values[i] = values[i]<<8 | int(digit)
		}
		b = b[width:]
	}
	p := ofValues(values)
	if err := Check(p); err != nil {
		return Params{}, err
	}
	return p, nil
}
