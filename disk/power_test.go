package disk

import (
	"bytes"
	"errors"
	"math"
	"testing"

	"bailee/api"
)

// dead holds that the power is gone, and that nothing is to be had but what is sure.
func dead(t *testing.T, d *Disk, sure []byte, waits int) {
	t.Helper()
	for range 3 {
		if !d.Gone() || d.Waits() != waits {
			t.Fatalf("gone is %v, %d writes wait, not %d", d.Gone(), d.Waits(), waits)
		}
		for _, err := range []error{d.Write(0, filled(7)), d.Sync(), d.Arm(0), d.Arm(5)} {
			if !errors.Is(err, api.ErrPower) {
				t.Fatalf("with the power gone: %v", err)
			}
		}
		if b, err := d.Read(0); b != nil || !errors.Is(err, api.ErrPower) {
			t.Fatalf("with the power gone is seen %x, %v", b, err)
		}
		if b, err := d.Sure(0); err != nil || !bytes.Equal(b, sure) {
			t.Fatalf("with the power gone is sure %x, %v", b, err)
		}
	}
}

func TestThePowerLastsForSoManyDeeds(t *testing.T) {
	for deeds := range 40 {
		d, err := New(1)
		fine(t, err, d.Arm(deeds))
		sure, waits := noughts(), 0
		for n := range deeds {
			if n%3 == 2 {
				fine(t, d.Sync())
				sure, waits = filled(byte(n-1)), 0
			} else {
				fine(t, d.Write(0, filled(byte(n))))
				waits++
			}
			if d.Gone() || d.Waits() != waits {
				t.Fatalf("of %d deeds, behind %d: gone is %v, %d wait", deeds, n+1, d.Gone(), d.Waits())
			}
		}
		other := d.Copy()
		if err := d.Sync(); !errors.Is(err, api.ErrPower) {
			t.Fatalf("a sync behind %d deeds: %v", deeds, err)
		}
		dead(t, d, sure, waits)
		if err := other.Write(0, filled(200)); !errors.Is(err, api.ErrPower) {
			t.Fatalf("a write behind %d deeds: %v", deeds, err)
		}
		dead(t, other, sure, waits)
	}
}

func TestTheDeedThatThePowerGoesAtIsNotDone(t *testing.T) {
	d, err := New(1)
	fine(t, err, d.Write(0, marked(1)), d.Arm(0))
	if d.Gone() {
		t.Fatal("the power goes ahead of the deed")
	}
	seen(t, d, 0, marked(1), noughts())
	other := d.Copy()
	if d.Sync() == nil || other.Write(0, marked(2)) == nil {
		t.Fatal("the deed is done")
	}
	dead(t, d, noughts(), 1)
	dead(t, other, noughts(), 1)
	d.Crash(Crash{Kept: 5})
	seen(t, d, 0, marked(1), marked(1))
	other.Crash(Crash{Kept: 5})
	seen(t, other, 0, marked(1), marked(1))
}

func TestWhatIsNoDeedCostsNone(t *testing.T) {
	d, err := New(2)
	fine(t, err, d.Write(1, marked(1)), d.Arm(1))
	for range 10 {
		seen(t, d, 1, marked(1), noughts())
		d.Size()
		d.Waits()
		d.Gone()
		c := d.Copy()
		fine(t, c.Write(0, marked(2)))
		for _, err := range []error{d.Write(2, marked(1)), d.Write(-1, marked(1)), d.Write(0, nil), d.Write(0, make([]byte, 65)), d.Arm(-1)} {
			if err == nil {
				t.Fatal("it was no wrong call")
			}
		}
		_, err := d.Read(2)
		_, also := d.Sure(-1)
		if err == nil || also == nil || d.Gone() {
			t.Fatal("there is no such sector")
		}
	}
	fine(t, d.Sync())
	for range 10 {
		if !errors.Is(d.Write(2, marked(1)), api.ErrRange) || !errors.Is(d.Write(0, nil), api.ErrSize) || d.Gone() {
			t.Fatal("the power goes at a wrong write")
		}
	}
	if !errors.Is(d.Sync(), api.ErrPower) {
		t.Fatal("the power lasts longer")
	}
}

func TestArmingAgain(t *testing.T) {
	for _, row := range [][2]int{{0, 3}, {3, 0}, {2, 2}, {5, 1}, {1, 5}} {
		d, err := New(1)
		fine(t, err, d.Arm(row[0]), d.Arm(row[1]))
		for range row[1] {
			fine(t, d.Sync())
		}
		if !errors.Is(d.Sync(), api.ErrPower) {
			t.Fatalf("armed with %d, then %d: it lasts longer", row[0], row[1])
		}
	}
	d, err := New(1)
	fine(t, err, d.Arm(1))
	if !errors.Is(d.Arm(-1), api.ErrRange) {
		t.Fatal("armed below 0")
	}
	fine(t, d.Sync())
	if !errors.Is(d.Sync(), api.ErrPower) {
		t.Fatal("a wrong arming changed for how many deeds it lasts")
	}
}

func TestArmedForever(t *testing.T) {
	d, err := New(1)
	fine(t, err, d.Arm(math.MaxInt))
	for range 1000 {
		fine(t, d.Write(0, marked(1)), d.Sync())
	}
}

func TestACrashBringsThePowerBack(t *testing.T) {
	for _, row := range []struct {
		deeds int
		gone  bool
	}{{0, true}, {1, true}, {2, true}, {9, false}} {
		d, err := New(1)
		fine(t, err, d.Arm(row.deeds))
		for range 3 {
			d.Write(0, marked(1))
		}
		if d.Gone() != row.gone {
			t.Fatalf("armed with %d: gone is %v behind three deeds", row.deeds, d.Gone())
		}
		d.Crash(Crash{})
		if d.Gone() || d.Waits() != 0 {
			t.Fatalf("armed with %d: gone is %v behind a crash, %d wait", row.deeds, d.Gone(), d.Waits())
		}
		// It isn't armed any more.
		for range 20 {
			fine(t, d.Write(0, marked(2)), d.Sync())
		}
		fine(t, d.Arm(1), d.Sync())
		if !errors.Is(d.Sync(), api.ErrPower) {
			t.Fatal("it can't be armed behind a crash")
		}
	}
}
