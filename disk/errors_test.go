package disk

import (
	"errors"
	"math"
	"testing"

	"bailee/api"
)

// only holds that an error is that one, and none of the others.
func only(t *testing.T, what string, err, want error) {
	t.Helper()
	for _, e := range []error{api.ErrRange, api.ErrSize, api.ErrPower, api.ErrState, api.ErrNone, api.ErrFull} {
		if errors.Is(err, e) != (want != nil && e == want) {
			t.Fatalf("%s: %v, not %v", what, err, want)
		}
	}
	if want == nil && err != nil {
		t.Fatalf("%s: %v", what, err)
	}
}

func TestHowManySectorsThereMayBe(t *testing.T) {
	for _, size := range []int{math.MinInt, math.MinInt32, -2048, -2, -1, 0, 2049, 2050, 4096, 1 << 16, 1<<32 + 1, math.MaxInt32, math.MaxInt} {
		d, err := New(size)
		only(t, "a disk of none, or too many", err, api.ErrRange)
		if d != nil {
			t.Fatalf("a disk of %d sectors", size)
		}
	}
}

// powers are disks that are there, one behind whose next deed the power is gone, and one whose power is gone.
func powers(t *testing.T, size int) []pair {
	t.Helper()
	var list []pair
	for range 3 {
		p := pairOf(t, size)
		p.write(t, 0, marked(1))
		p.sync(t)
		p.write(t, size-1, marked(2))
		list = append(list, p)
	}
	list[1].arm(t, 0)
	list[2].arm(t, 0)
	list[2].sync(t)
	return list
}

func TestSectorsThatThereAreNot(t *testing.T) {
	for _, size := range []int{1, 2, 7, 2048} {
		for _, p := range powers(t, size) {
			for _, i := range []int{math.MinInt, math.MinInt32, -size, -1, size, size + 1, 2 * size, 2049, 1 << 32, 1<<32 + 1, math.MaxInt32, math.MaxInt} {
				b, err := p.d.Read(i)
				only(t, "a read", err, api.ErrRange)
				sure, err := p.d.Sure(i)
				only(t, "what is sure", err, api.ErrRange)
				if b != nil || sure != nil {
					t.Fatalf("of %d sectors, number %d is there", size, i)
				}
				for _, list := range [][]byte{nil, {}, marked(1), make([]byte, 63), make([]byte, 65)} {
					only(t, "a write", p.d.Write(i, list), api.ErrRange)
				}
			}
			p.holds(t)
		}
	}
}

func TestWritesOfAnotherSize(t *testing.T) {
	for n, p := range powers(t, 3) {
		for size := range 200 {
			want := api.ErrSize
			switch {
			case size == 64 && n == 0:
				want = nil
			case size == 64:
				continue
			}
			other := p.copied()
			only(t, "a write", other.d.Write(1, make([]byte, size)), want)
			if size != 64 {
				other.holds(t)
			}
		}
		only(t, "a great write", p.d.Write(1, make([]byte, 1<<20)), api.ErrSize)
		only(t, "a write of nothing", p.d.Write(1, nil), api.ErrSize)
		p.holds(t)
	}
}

func TestErrorsComeInTheirOrder(t *testing.T) {
	// Only what is right but for the power is of the power.
	there, last, gone := 0, 1, 2
	for n, p := range powers(t, 2) {
		want := api.ErrPower
		if n == there {
			want = nil
		}
		other := p.copied()
		only(t, "a write", other.d.Write(1, marked(3)), want)
		other = p.copied()
		only(t, "a sync", other.d.Sync(), want)
		if n == last {
			want = nil
		}
		other = p.copied()
		only(t, "arming", other.d.Arm(3), want)
		_, err := p.d.Read(1)
		only(t, "a read", err, want)
		_, err = p.d.Sure(1)
		only(t, "what is sure", err, nil)
		for _, deeds := range []int{-1, -2, math.MinInt32, math.MinInt} {
			only(t, "arming below 0", p.d.Arm(deeds), api.ErrRange)
		}
		if p.d.Gone() != (n == gone) {
			t.Fatal("the power went at no deed")
		}
		p.holds(t)
	}
}

func TestAnErrorChangesNothing(t *testing.T) {
	for _, p := range powers(t, 2) {
		for range 3 {
			p.write(t, 2, marked(3))
			p.write(t, -1, nil)
			p.write(t, 0, marked(3)[:63])
			p.arm(t, -1)
			p.holds(t)
		}
		for range 3 {
			other := p.copied()
			other.write(t, 0, marked(3))
			other.sync(t)
			other.holds(t)
			other.crash(Crash{Kept: 9})
			other.holds(t)
		}
	}
}
