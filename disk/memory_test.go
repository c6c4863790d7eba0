package disk

import (
	"bytes"
	"math/rand"
	"slices"
	"testing"
)

// spoil writes over bytes, and the room behind them.
func spoil(list []byte) {
	for i := range list[:cap(list)] {
		list[:cap(list)][i] ^= 255
	}
}

func TestNothingGivenIsChanged(t *testing.T) {
	for _, size := range []int{0, 1, 63, 64, 65, 100} {
		whole := slices.Concat(bytes.Repeat([]byte{5}, size), bytes.Repeat([]byte{123}, 100))
		was := slices.Clone(whole)
		d, err := New(2)
		fine(t, err)
		for _, i := range []int{-1, 0, 1, 1, 2} {
			d.Write(i, whole[:size])
		}
		d.Read(1)
		d.Crash(Crash{Kept: 1, Torn: 9})
		d.Write(0, whole[:size])
		d.Sync()
		d.Write(0, noughts())
		d.Sync()
		if !bytes.Equal(whole, was) {
			t.Fatalf("%d bytes, or the room behind them, were changed", size)
		}
	}
}

func TestWhatIsGivenIsNotKept(t *testing.T) {
	for _, settle := range []func(*Disk){func(*Disk) {}, func(d *Disk) { d.Sync() }, func(d *Disk) { d.Crash(Crash{Kept: 1}) }, func(d *Disk) { d.Crash(Crash{Torn: 64}) }} {
		d, err := New(1)
		b := marked(1)
		fine(t, err, d.Write(0, b))
		spoil(b)
		seen(t, d, 0, marked(1), noughts())
		settle(d)
		spoil(b)
		if got, err := d.Read(0); err != nil || !bytes.Equal(got, marked(1)) {
			t.Fatalf("writing over what was given changed the disk: %x, %v", got, err)
		}
	}
}

func TestAnswersAreTheCallersAlone(t *testing.T) {
	p := pairOf(t, 3)
	p.write(t, 0, marked(1))
	p.write(t, 1, marked(2))
	p.sync(t)
	p.write(t, 1, marked(3))
	p.write(t, 1, marked(1))
	check := func(p pair) {
		t.Helper()
		for i := range 3 {
			for _, answers := range []func(int) ([]byte, error){p.d.Read, p.d.Sure} {
				first, err := answers(i)
				second, also := answers(i)
				fine(t, err, also)
				was := slices.Clone(second)
				spoil(first)
				first = append(first, 1, 2, 3)
				spoil(first)
				if !bytes.Equal(second, was) {
					t.Fatalf("sector %d: two answers are one", i)
				}
				p.holds(t)
			}
		}
	}
	check(p)
	for _, c := range []Crash{{}, {1, 5, 0}, {0, 5, 1}, {2, 0, 0}} {
		other := p.copied()
		other.crash(c)
		check(other)
	}
	p.sync(t)
	check(p)
}

func TestACopyIsApart(t *testing.T) {
	// Whatever is done with one of them, the other one is as it was.
	for seed := range int64(40) {
		r, p := rand.New(rand.NewSource(seed)), pairOf(t, 3)
		for range 30 {
			p = anything(t, p, r)
		}
		other := p.copied()
		for range 30 {
			was := other.w.copied()
			p = anything(t, p, r)
			holds(t, other.d, was, sectorsOf(3))
		}
		for range 30 {
			was := p.w.copied()
			other = anything(t, other, r)
			holds(t, p.d, was, sectorsOf(3))
		}
		p.holds(t)
		other.holds(t)
	}
}

func TestACopyHasAllThatADiskHas(t *testing.T) {
	for deeds := range 4 {
		d, err := New(2)
		fine(t, err, d.Write(0, marked(1)), d.Sync(), d.Write(0, marked(2)), d.Write(1, marked(3)), d.Arm(deeds))
		c := d.Copy()
		if c.Size() != 2 || c.Waits() != 2 || c.Gone() {
			t.Fatalf("a copy has %d sectors, %d writes that wait, gone is %v", c.Size(), c.Waits(), c.Gone())
		}
		seen(t, c, 0, marked(2), marked(1))
		seen(t, c, 1, marked(3), noughts())
		for range deeds {
			fine(t, c.Write(1, marked(1)))
		}
		if c.Sync() == nil || !c.Gone() || !c.Copy().Gone() || d.Gone() || d.Waits() != 2 {
			t.Fatal("a copy's power is another one")
		}
		c = c.Copy()
		dead(t, c, marked(1), 2+deeds)
		c.Crash(Crash{Kept: 1, Torn: 1})
		seen(t, c, 0, marked(2), marked(2))
	}
}

func TestNeitherWritesOverTheOthersRoom(t *testing.T) {
	// Both write where the list of what waits has room.
	for n := range 20 {
		d, err := New(2)
		fine(t, err)
		for range n {
			fine(t, d.Write(0, marked(1)))
		}
		c := d.Copy()
		fine(t, d.Write(1, marked(2)), c.Write(1, marked(3)))
		seen(t, d, 1, marked(2), noughts())
		seen(t, c, 1, marked(3), noughts())
		fine(t, d.Sync(), c.Sync())
		seen(t, d, 1, marked(2), marked(2))
		seen(t, c, 1, marked(3), marked(3))
	}
}
