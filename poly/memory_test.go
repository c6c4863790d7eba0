package poly

import (
	"bytes"
	"testing"
)

// calls makes each answer that is a list, of p and q.
func calls(p, q []byte) [][]byte {
	quotient, rest, _ := Div(p, q)
	return [][]byte{
		Trim(p), Add(p, q), Add(q, p), Scale(p, 1), Scale(p, 77), Mul(p, q), Mul(p, p), Shift(p, -1), Shift(p, 0), Shift(p, 3),
		Low(p, 2), Low(p, 1000), Slope(p), quotient, rest, Roots(p...), Inverses(p...), Zeros(p),
	}
}

func TestNothingGivenIsChanged(t *testing.T) {
	for _, p := range samples() {
		for _, q := range samples()[:20] {
			first, second := roomy(p), roomy(q)
			calls(first[:len(p)], second[:len(q)])
			Degree(first[:len(p)])
			Eval(first[:len(p)], 3)
			if !bytes.Equal(first, roomy(p)) || !bytes.Equal(second, roomy(q)) {
				t.Fatalf("%v and %v, or the room behind them, became %v and %v", p, q, first, second)
			}
		}
	}
}

func TestAnswersAreTheCallersAlone(t *testing.T) {
	for _, p := range samples() {
		for _, q := range samples()[:20] {
			first, second := roomy(p), roomy(q)
			answers, want := calls(first[:len(p)], second[:len(q)]), calls(p, q)
			for i, answer := range answers {
				if !bytes.Equal(answer, want[i]) {
					t.Fatalf("answer %d of %v and %v became %v, not %v", i, p, q, answer, want[i])
				}
				all := answer[:cap(answer)]
				for j := range all {
					all[j] ^= 255
				}
			}
			if !bytes.Equal(first, roomy(p)) || !bytes.Equal(second, roomy(q)) {
				t.Fatalf("writing over answers changed %v or %v", p, q)
			}
		}
	}
}

// roomy is a list with more behind it, all of it told.
func roomy(p []byte) []byte {
	return append(append(make([]byte, 0, len(p)+9), p...), 1, 2, 3, 4, 5, 6, 7, 8, 9)
}
