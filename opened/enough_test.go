package opened

import (
	"math"
	"testing"
)

// counts are numbers of blocks, and what are none.
func counts() []int {
	list := []int{math.MinInt, math.MinInt + 1, math.MinInt/2 - 1, math.MinInt / 2, -1 << 32, -64, math.MaxInt / 2, math.MaxInt/2 + 1, math.MaxInt/2 + 2, math.MaxInt/2 + 17, math.MaxInt - 1, math.MaxInt, 1 << 31, 1 << 32}
	for many := -20; many < 70; many++ {
		list = append(list, many)
	}
	return list
}

// holds holds what Enough tells.
func holds(t *testing.T, r Report, want bool) {
	t.Helper()
	if got := Enough(r); got != want {
		t.Fatalf("Enough(%v) = %t", r, got)
	}
}

func TestEnoughOfOneGroup(t *testing.T) {
	for _, erased := range counts() {
		for _, changed := range counts() {
			want := false
			for e := range 33 {
				for wrong := range 17 {
					want = want || e == erased && wrong == changed && 2*wrong+e <= 32
				}
			}
			for _, gone := range []int{0, 1, -1, 33, 1000, math.MinInt, math.MaxInt} {
				holds(t, Report{gone, []int{erased}, []int{changed}}, want)
			}
		}
	}
}

func TestEnoughOfEachGroup(t *testing.T) {
	for _, bad := range [][2]int{{33, 0}, {0, 17}, {31, 1}, {1, 16}, {-1, 0}, {0, -1}, {-1, -1}, {34, -1}, {-2, 17}, {32, 1}, {33, -33}} {
		for many := range 5 {
			erased, changed := make([]int, many), make([]int, many)
			for i := range many {
				erased[i], changed[i] = 32-2*i, i
			}
			holds(t, Report{0, erased, changed}, true)
			for i := range many {
				was, is := erased[i], changed[i]
				erased[i], changed[i] = bad[0], bad[1]
				holds(t, Report{0, erased, changed}, false)
				erased[i], changed[i] = was, is
			}
		}
	}
}

func TestEnoughOfNotAsMany(t *testing.T) {
	for many := range 6 {
		for others := range 6 {
			holds(t, Report{0, make([]int, many), make([]int, others)}, many == others)
		}
	}
	holds(t, Report{}, true)
	holds(t, Report{0, nil, []int{}}, true)
	holds(t, Report{0, []int{0}, nil}, false)
	holds(t, Report{0, nil, []int{0}}, false)
}
