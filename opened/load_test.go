package opened

import (
	"errors"
	"slices"
	"testing"

	"bailee/api"
	"bailee/params"
	"bailee/stripe"
)

// holdsLoad holds a load.
func holdsLoad(t *testing.T, p params.Params, blocks [][]byte, want ...int) {
	t.Helper()
	if got, err := Load(p, blocks); err != nil || !slices.Equal(got, want) {
		t.Fatalf("Load(%v) = %v, %v, not %v", p, got, err, want)
	}
}

// full are so many whole blocks.
func full(many int) [][]byte {
	list := make([][]byte, many)
	for i := range list {
		list[i] = make([]byte, 8)
	}
	return list
}

func TestLoadOfEachSize(t *testing.T) {
	for size := range 2001 {
		shape, err := stripe.Shape(size)
		if err != nil {
			t.Fatal(err)
		}
		many, want := 0, []int{}
		for _, data := range shape {
			many += data + 32
			want = append(want, data+32)
		}
		holdsLoad(t, of(size, size%9), full(many), make([]int, len(shape))...)
		holdsLoad(t, of(size, size%9), make([][]byte, many), want...)
	}
}

func TestLoadsThatAreKnown(t *testing.T) {
	holdsLoad(t, of(0, 0), make([][]byte, 33), 33)
	holdsLoad(t, of(8, 8), full(33), 0)
	holdsLoad(t, of(9, 0), make([][]byte, 34), 34)
	holdsLoad(t, of(1784, 0), make([][]byte, 255), 255)
	holdsLoad(t, of(1785, 3), make([][]byte, 288), 255, 33)
	holdsLoad(t, of(2000, 8), make([][]byte, 314), 255, 59)
	holdsLoad(t, of(2000, 8), append(full(255), make([][]byte, 59)...), 0, 59)
	holdsLoad(t, of(2000, 8), append(make([][]byte, 255), full(59)...), 255, 0)
	holdsLoad(t, of(2000, 8), append(full(254), make([][]byte, 60)...), 1, 59)
	holdsLoad(t, of(2000, 8), append(full(256), make([][]byte, 58)...), 0, 58)
}

func TestLoadOfEachBlockAlone(t *testing.T) {
	for _, size := range []int{0, 12, 1785, 2000} {
		shape, err := stripe.Shape(size)
		many, err2 := stripe.Total(size)
		if err != nil || err2 != nil {
			t.Fatal(err, err2)
		}
		for i := range many {
			for length := range 20 {
				blocks, want := full(many), make([]int, len(shape))
				blocks[i] = make([]byte, length)
				if g, _, err := stripe.Group(size, i); err == nil && length != 8 {
					want[g] = 1
				}
				holdsLoad(t, of(size, 1), blocks, want...)
			}
		}
	}
}

func TestLoadOfNotSoMany(t *testing.T) {
	for _, size := range []int{0, 8, 9, 1784, 1785, 2000} {
		many, err := stripe.Total(size)
		if err != nil {
			t.Fatal(err)
		}
		// The sentinels are no blocks of the file.
		for _, list := range append(wrongCounts(full(many)), full(many+8)) {
			if got, err := Load(of(size, 8), list); !errors.Is(err, api.ErrForm) || got != nil {
				t.Fatalf("Load of %d blocks, for %d bytes = %v, %v", len(list), size, got, err)
			}
		}
	}
}

func TestLoadOfWrongParameters(t *testing.T) {
	for _, p := range someParams() {
		for _, list := range [][][]byte{nil, full(33), full(34), make([][]byte, 38)} {
			want := first(params.Check(p), when(len(list) != 33+max(p.Size-1, 0)/8, api.ErrForm))
			got, err := Load(p, list)
			holdsFault(t, "Load", err, want)
			if (got == nil) != (want != nil) {
				t.Fatalf("Load(%v) of %d blocks = %v, %v", p, len(list), got, err)
			}
		}
	}
}

func TestLoadIsWhatIsErased(t *testing.T) {
	for k, o := range few() {
		l := lay(t, o)
		next := numbers(uint32(k))
		for _, group := range l.groups(t) {
			many := next() % 33
			l.harm(l.stored, some(group, many, next), many, next)
		}
		blocks, _, err := Blocks(o.master, o.number, o.p, l.stored)
		_, r, err2 := Open(o.master, o.number, o.p, l.stored)
		if err != nil || err2 != nil {
			t.Fatal(err, err2)
		}
		holdsLoad(t, o.p, blocks, r.Erased...)
	}
}
