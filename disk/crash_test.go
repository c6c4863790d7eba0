package disk

import (
	"bytes"
	"math"
	"math/rand"
	"testing"
)

// waiting is a disk on which some writes wait, each of the sector that is told; the first of all is sure.
func waiting(t *testing.T, size int, sectors ...int) pair {
	t.Helper()
	p := pairOf(t, size)
	p.write(t, 0, filled(255))
	p.sync(t)
	for n, i := range sectors {
		b := filled(byte(n + 1))
		for j := range b {
			b[j] += byte(j % 4 * 60) // bytes of one write that are beside one another aren't the same
		}
		p.write(t, i, b)
	}
	return p
}

// asOneOfThem holds P18.2: each byte is as it was sure, or as a write of the sector that waited.
func asOneOfThem(t *testing.T, w *words, d *Disk) {
	t.Helper()
	for i := range w.sure {
		got, err := d.Sure(i)
		fine(t, err)
		for j, b := range got {
			ok := b == w.sure[i][j]
			for _, x := range w.waits {
				ok = ok || x.at == i && x.b[j] == b
			}
			if !ok {
				t.Fatalf("byte %d of sector %d is %d behind a crash: neither sure nor written", j, i, b)
			}
		}
	}
}

// crashes crashes copies of a disk in one way, and holds what is left.
func crashes(t *testing.T, p pair, c Crash) {
	t.Helper()
	other := p.copied()
	other.crash(c)
	holds(t, other.d, other.w, []int{-1, 0, 1, 2, 3})
	asOneOfThem(t, p.w, other.d)
	for i := range p.w.sure {
		read, err := other.d.Read(i)
		sure, also := other.d.Sure(i)
		if err != nil || also != nil || !bytes.Equal(read, sure) {
			t.Fatalf("of sector %d is seen another than is sure, behind a crash", i)
		}
	}
}

// sectorsInAllWays are all lists of so many sectors.
func sectorsInAllWays(size, count int) [][]int {
	lists := [][]int{nil}
	for range count {
		var longer [][]int
		for _, list := range lists {
			for i := range size {
				longer = append(longer, append(list[:len(list):len(list)], i))
			}
		}
		lists = longer
	}
	return lists
}

func TestAllCrashesOfFewWrites(t *testing.T) {
	for count := range 5 {
		for _, sectors := range sectorsInAllWays(2, count) {
			p := waiting(t, 2, sectors...)
			for kept := -1; kept <= count+1; kept++ {
				for _, torn := range []int{-1, 0, 1, 31, 63, 64, 65} {
					for scattered := range uint64(1) << count {
						crashes(t, p, Crash{kept, torn, scattered})
					}
				}
			}
		}
	}
}

func TestEachTear(t *testing.T) {
	far := []int{math.MinInt, math.MinInt + 1, math.MinInt32, -65, -64, math.MaxInt, math.MaxInt - 1, math.MaxInt32, 256, 320}
	for torn := -3; torn <= 70; torn++ {
		far = append(far, torn)
	}
	for _, torn := range far {
		for kept := range 4 {
			p := waiting(t, 4, 1, 1, 1)
			for _, scattered := range []uint64{0, 1, 2, 3, math.MaxUint64} {
				crashes(t, p, Crash{kept, torn, scattered})
			}
		}
		// By hand: the torn write comes upon the kept one, and what stays of that one is its end.
		d, err := New(1)
		fine(t, err, d.Write(0, marked(1)), d.Sync(), d.Write(0, marked(2)), d.Write(0, marked(3)))
		part := min(max(torn, 0), 64)
		other := d.Copy()
		other.Crash(Crash{Kept: 1, Torn: torn})
		want := append(marked(3)[:part], marked(2)[part:]...)
		seen(t, other, 0, want, want)
		d.Crash(Crash{Torn: torn})
		want = append(marked(2)[:part], marked(1)[part:]...)
		seen(t, d, 0, want, want)
	}
}

func TestHowManyAreKept(t *testing.T) {
	p := waiting(t, 4, 0, 1, 2, 3, 0, 1, 2, 3, 3)
	for _, kept := range []int{math.MinInt, math.MinInt + 1, math.MinInt32, -64, -2, -1, 0, 1, 2, 3, 4, 5, 6, 7, 8, 9, 10, 11, 64, math.MaxInt32, math.MaxInt - 1, math.MaxInt} {
		for _, torn := range []int{0, 1, 64} {
			for _, scattered := range []uint64{0, 1, 85, math.MaxUint64} {
				crashes(t, p, Crash{kept, torn, scattered})
			}
		}
		// By hand: that of below 0 none is kept, and that of none the first is torn.
		d := p.d.Copy()
		d.Crash(Crash{Kept: kept, Torn: 64})
		first, err := d.Sure(0)
		fine(t, err)
		if kept < 4 && first[0] != 1 || kept >= 4 && first[0] != 5 {
			t.Fatalf("%d kept, and the next one: sector 0 begins with %d", kept, first[0])
		}
	}
}

func TestEachBitTellsOfOneWrite(t *testing.T) {
	const count = 72
	for _, kept := range []int{-1, 0, 1, 5} {
		begin := max(kept, 0)
		for bit := range 64 {
			d, err := New(count)
			fine(t, err)
			for n := range count {
				fine(t, d.Write(n, marked(1)))
			}
			d.Crash(Crash{Kept: kept, Scattered: 1 << bit})
			for n := range count {
				want := noughts()
				if n < begin || bit < 63 && n == begin+1+bit {
					want = marked(1)
				}
				seen(t, d, n, want, want)
			}
		}
	}
}

func TestBitsFrom63OnAreNone(t *testing.T) {
	const count = 200
	for _, kept := range []int{0, 1, 100} {
		d, err := New(count)
		fine(t, err)
		for n := range count {
			fine(t, d.Write(n, marked(1)))
		}
		d.Crash(Crash{Kept: kept, Scattered: math.MaxUint64})
		for n := range count {
			want := marked(1)
			if n == kept || n > kept+63 {
				want = noughts()
			}
			seen(t, d, n, want, want)
		}
	}
}

func TestScatteredWritesComeInOrder(t *testing.T) {
	d, err := New(1)
	fine(t, err)
	for n := range 6 {
		fine(t, d.Write(0, filled(byte(n+1))))
	}
	for bits := range uint64(32) {
		want := append(filled(1)[:10], noughts()[10:]...)
		for n := range 5 {
			if bits>>n&1 == 1 {
				want = filled(byte(n + 2))
			}
		}
		c := d.Copy()
		c.Crash(Crash{Torn: 10, Scattered: bits})
		seen(t, c, 0, want, want)
	}
}

func TestCrashesOfManyWrites(t *testing.T) {
	r := rand.New(rand.NewSource(1))
	for range 300 {
		sectors := make([]int, r.Intn(150))
		for n := range sectors {
			sectors[n] = r.Intn(4)
		}
		p := waiting(t, 4, sectors...)
		for range 10 {
			crashes(t, p, Crash{r.Intn(len(sectors)+4) - 2, r.Intn(68) - 2, r.Uint64() & r.Uint64()})
		}
	}
}

func TestACrashOfNothingThatWaits(t *testing.T) {
	d, err := New(2)
	fine(t, err, d.Write(1, marked(1)), d.Sync())
	for _, c := range []Crash{{}, {5, 5, 5}, {-1, 64, math.MaxUint64}} {
		d.Crash(c)
		seen(t, d, 0, noughts(), noughts())
		seen(t, d, 1, marked(1), marked(1))
		if d.Waits() != 0 || d.Gone() {
			t.Fatalf("%d wait, gone is %v", d.Waits(), d.Gone())
		}
	}
}

func TestCrashesBehindOneAnother(t *testing.T) {
	d, err := New(2)
	fine(t, err, d.Write(0, marked(1)), d.Write(1, marked(1)))
	d.Crash(Crash{Kept: 1, Torn: 3})
	want := append(marked(1)[:3], noughts()[3:]...)
	seen(t, d, 0, marked(1), marked(1))
	seen(t, d, 1, want, want)
	// What was lost doesn't come back.
	d.Crash(Crash{Kept: 9, Torn: 64, Scattered: math.MaxUint64})
	fine(t, d.Sync())
	seen(t, d, 0, marked(1), marked(1))
	seen(t, d, 1, want, want)
	// What is written now counts from the first one on.
	fine(t, d.Write(1, marked(2)), d.Write(1, marked(3)))
	d.Crash(Crash{Kept: 1})
	seen(t, d, 1, marked(2), marked(2))
}
