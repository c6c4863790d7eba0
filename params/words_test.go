package params

import (
	"iter"
	"math"
	"slices"

	"bailee/api"
)

// names are the fields, in the order in which the chapter looks for a wrong one.
func names() [6]string {
	return [6]string{"size", "sentinels", "spots", "period", "patience", "retries"}
}

// field is one of the fields, by its number in names.
func field(p *Params, i int) *int {
	return [6]*int{&p.Size, &p.Sentinels, &p.Spots, &p.Period, &p.Patience, &p.Retries}[i]
}

// wraps is what a wrong field wraps.
func wraps(i int) error {
	switch i {
	case 0:
		return api.ErrSize
	case 1:
		return api.ErrBudget
	}
	return api.ErrRange
}

// firstWrong is, by the chapter's words, the number of the first field that isn't right; -1, if they are right.
func firstWrong(p Params) int {
	switch {
	case p.Size < 0 || p.Size > 2000:
		return 0
	case p.Sentinels < 0 || p.Sentinels > 8:
		return 1
	case p.Spots < 1 || p.Spots > 12:
		return 2
	case p.Period < 1 || p.Period > 10000:
		return 3
	case p.Patience < 1 || p.Patience > p.Period:
		return 4
	case p.Retries < 0 || p.Retries > 5:
		return 5
	}
	return -1
}

// blocksOf is how many blocks a file of so many bytes has: eight bytes each, one at least, and 32 behind each 223 or less.
func blocksOf(size int) int {
	data := 1
	for data*8 < size {
		data++
	}
	groups := 1
	for groups*223 < data {
		groups++
	}
	return data + groups*32
}

// bytesOf are right parameters' bytes, by the chapter's words.
func bytesOf(p Params) []byte {
	return []byte{
		byte(p.Size / 256), byte(p.Size % 256),
		byte(p.Sentinels),
		byte(p.Spots),
		byte(p.Period / 256), byte(p.Period % 256),
		byte(p.Patience / 256), byte(p.Patience % 256),
		byte(p.Retries),
	}
}

// fromBytes are the parameters that nine bytes tell of, right or not.
func fromBytes(b []byte) Params {
	two := func(i int) int { return int(b[i])*256 + int(b[i+1]) }
	return Params{two(0), int(b[2]), int(b[3]), two(4), two(6), int(b[8])}
}

// edges are, of each field, numbers at its bounds, between them, beyond them, and such that the bytes of which look right.
func edges() [6][]int {
	far := []int{math.MinInt, math.MinInt + 1, math.MinInt32, -65536, -256, -2, -1, math.MaxInt32, math.MaxInt - 1, math.MaxInt}
	return [6][]int{
		slices.Concat(far, []int{0, 1, 8, 9, 255, 256, 1784, 1785, 1999, 2000, 2001, 65535, 65536, 65636}),
		slices.Concat(far, []int{0, 1, 7, 8, 9, 255, 256, 260}),
		slices.Concat(far, []int{0, 1, 2, 11, 12, 13, 255, 256, 257, 260}),
		slices.Concat(far, []int{0, 1, 2, 255, 256, 9999, 10000, 10001, 65535, 65536, 65556}),
		slices.Concat(far, []int{0, 1, 2, 3, 255, 256, 257, 9999, 10000, 10001, 65536, 65537}),
		slices.Concat(far, []int{0, 1, 4, 5, 6, 255, 256, 258}),
	}
}

// few are of each field's edges those that all others are put together with.
func few() [6][]int {
	return [6][]int{
		{math.MinInt, -1, 0, 1, 1785, 2000, 2001, 65536},
		{-1, 0, 4, 8, 9, 256, math.MaxInt},
		{math.MinInt, -1, 0, 1, 12, 13, 257},
		{-1, 0, 1, 20, 256, 9999, 10000, 10001, math.MaxInt},
		{math.MinInt, -1, 0, 1, 20, 21, 256, 10000, 10001, 65537},
		{-1, 0, 5, 6, 256, math.MaxInt},
	}
}

// rights are parameters that are right, at all bounds.
func rights() []Params {
	return []Params{
		Default(100),
		{0, 0, 1, 1, 1, 0},
		{2000, 8, 12, 10000, 10000, 5},
		{2000, 0, 12, 10000, 1, 0},
		{0, 8, 1, 256, 256, 5},
		{258, 3, 5, 1027, 770, 1},
	}
}

// with are parameters with another value in one field.
func with(p Params, i, value int) Params {
	*field(&p, i) = value
	return p
}

// sample are many parameters: right ones with each field at each edge, and all fields' few together.
func sample() iter.Seq[Params] {
	return func(yield func(Params) bool) {
		for _, p := range rights() {
			if !yield(p) {
				return
			}
			for i, values := range edges() {
				for _, value := range values {
					if !yield(with(p, i, value)) {
						return
					}
				}
			}
		}
		together(0, Params{}, few(), yield)
	}
}

// together yields what comes of all values of field i and of those behind it.
func together(i int, p Params, values [6][]int, yield func(Params) bool) bool {
	if i == len(values) {
		return yield(p)
	}
	for _, value := range values[i] {
		if !together(i+1, with(p, i, value), values, yield) {
			return false
		}
	}
	return true
}
