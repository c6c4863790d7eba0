package stream

import "bailee/api"

const (
	maxRound = 1 << 30 // the last round
	perRound = 1024    // numbers of the stream that a round has for itself
	maxRow   = 1024    // numbers of a row, at most: no round needs more than it has
)

// Choose chooses numbers.
func Choose(key []byte, round, n, k int) ([]int, error) {
	if round < 0 || round > maxRound || n < 0 || n > maxRow || k < 0 || k > n {
		return nil, api.ErrRange
	}
	s, row := sourceOf(key), rising(n)
	for j := range k {
		other := j + s.below(round*perRound+j, n-j)
		row[j], row[other] = row[other], row[j]
	}
	// What wasn't chosen stays behind: it isn't handed out as room.
	return row[:k:k], nil
}

// rising is the row 0 to n - 1.
func rising(n int) []int {
	row := make([]int, n)
	for i := range row {
		row[i] = i
	}
	return row
}
