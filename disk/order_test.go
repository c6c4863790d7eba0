package disk

import (
	"math/rand"
	"testing"
)

// act is something that is done with a disk.
type act func(t *testing.T, p pair) pair

// few are acts that are put together in every order.
func few() []act {
	write := func(i int, b []byte) act {
		return func(t *testing.T, p pair) pair { p.write(t, i, b); return p }
	}
	arm := func(deeds int) act {
		return func(t *testing.T, p pair) pair { p.arm(t, deeds); return p }
	}
	crash := func(c Crash) act {
		return func(t *testing.T, p pair) pair { p.crash(c); return p }
	}
	return []act{
		write(0, marked(1)), write(0, marked(2)), write(1, marked(3)), write(2, marked(1)), write(0, marked(1)[:63]),
		func(t *testing.T, p pair) pair { p.sync(t); return p },
		arm(0), arm(1), arm(2), arm(-1),
		crash(Crash{}), crash(Crash{Kept: 1, Torn: 5}), crash(Crash{Torn: 64, Scattered: 2}), crash(Crash{Kept: -1, Torn: -1, Scattered: 1}),
		func(t *testing.T, p pair) pair { return p.copied() },
	}
}

// orders does acts one behind the other, in every order, on a new disk each time.
func orders(t *testing.T, acts []act, done []act, deep int) {
	p := pairOf(t, 2)
	for _, a := range done {
		p = a(t, p)
	}
	holds(t, p.d, p.w, []int{-1, 0, 1, 2})
	if deep == 0 {
		return
	}
	for _, a := range acts {
		orders(t, acts, append(done[:len(done):len(done)], a), deep-1)
	}
}

func TestEveryOrderOfFewActs(t *testing.T) {
	orders(t, few(), nil, 4)
}

// anything does something by chance, seldom what ends much.
func anything(t *testing.T, p pair, r *rand.Rand) pair {
	t.Helper()
	size := len(p.w.sure)
	switch n := r.Intn(100); {
	case n < 60:
		b := make([]byte, 64)
		r.Read(b)
		p.write(t, r.Intn(size), b)
	case n < 64:
		p.write(t, r.Intn(size+4)-2, make([]byte, 62+r.Intn(4)))
	case n < 74:
		p.sync(t)
	case n < 80:
		p.arm(t, r.Intn(20)-2)
	case n < 84:
		p = p.copied()
	case n < 90 || p.w.gone:
		p.crash(Crash{Kept: r.Intn(len(p.w.waits)+4) - 2, Torn: r.Intn(70) - 3, Scattered: r.Uint64()})
	}
	return p
}

func TestManyActs(t *testing.T) {
	for _, size := range []int{1, 2, 3, 8, 33} {
		for seed := range int64(30) {
			r, p := rand.New(rand.NewSource(seed)), pairOf(t, size)
			for range 300 {
				p = anything(t, p, r)
				p.holds(t)
			}
		}
	}
}

func TestAGreatDisk(t *testing.T) {
	r, p := rand.New(rand.NewSource(1)), pairOf(t, 2048)
	for range 3 {
		for i := range 2048 {
			b := make([]byte, 64)
			r.Read(b)
			p.write(t, (i*5)%2048, b)
		}
		p.holds(t)
		p.crash(Crash{Kept: 1000, Torn: 7, Scattered: r.Uint64()})
		p.holds(t)
		for range 3000 {
			p.write(t, r.Intn(2048), filled(byte(r.Intn(256))))
		}
		p.sync(t)
		p.holds(t)
	}
}

func TestTheSameCallsHaveTheSameAnswers(t *testing.T) {
	for seed := range int64(20) {
		first, second := pairOf(t, 5), pairOf(t, 5)
		r, again := rand.New(rand.NewSource(seed)), rand.New(rand.NewSource(seed))
		for range 200 {
			first, second = anything(t, first, r), anything(t, second, again)
			holds(t, first.d, second.w, sectorsOf(5))
			holds(t, second.d, first.w, sectorsOf(5))
		}
	}
}
