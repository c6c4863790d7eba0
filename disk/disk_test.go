package disk

import (
	"bytes"
	"testing"
)

// seen holds that a sector is seen so, and is sure so.
func seen(t *testing.T, d *Disk, i int, read, sure []byte) {
	t.Helper()
	got, err := d.Read(i)
	if err != nil || !bytes.Equal(got, read) {
		t.Fatalf("of sector %d is seen %x, %v; not %x", i, got, err, read)
	}
	got, err = d.Sure(i)
	if err != nil || !bytes.Equal(got, sure) {
		t.Fatalf("of sector %d is sure %x, %v; not %x", i, got, err, sure)
	}
}

// fine holds that there was no error.
func fine(t *testing.T, errs ...error) {
	t.Helper()
	for n, err := range errs {
		if err != nil {
			t.Fatalf("number %d: %v", n, err)
		}
	}
}

func TestANewDisk(t *testing.T) {
	for _, size := range []int{1, 2, 3, 64, 2047, 2048} {
		d, err := New(size)
		if err != nil || d == nil || d.Size() != size || d.Waits() != 0 || d.Gone() {
			t.Fatalf("%d sectors: %v", size, err)
		}
		for i := range size {
			seen(t, d, i, noughts(), noughts())
		}
		// It isn't armed.
		for range 100 {
			fine(t, d.Write(size-1, marked(1)), d.Sync())
		}
	}
}

func TestTheDocumentsExample(t *testing.T) {
	d, err := New(4)
	fine(t, err, d.Write(2, marked(1)))
	d.Crash(Crash{})
	for i := range 4 {
		seen(t, d, i, noughts(), noughts())
	}
}

func TestAWriteWaitsForASync(t *testing.T) {
	d, err := New(3)
	fine(t, err, d.Write(1, marked(1)))
	seen(t, d, 1, marked(1), noughts())
	fine(t, d.Write(1, marked(2)), d.Write(2, marked(3)))
	seen(t, d, 1, marked(2), noughts())
	seen(t, d, 2, marked(3), noughts())
	if d.Waits() != 3 {
		t.Fatalf("%d writes wait, not 3", d.Waits())
	}
	fine(t, d.Sync())
	seen(t, d, 0, noughts(), noughts())
	seen(t, d, 1, marked(2), marked(2))
	seen(t, d, 2, marked(3), marked(3))
	if d.Waits() != 0 {
		t.Fatalf("%d writes wait behind a sync", d.Waits())
	}
	fine(t, d.Write(1, noughts()))
	seen(t, d, 1, noughts(), marked(2))
	fine(t, d.Write(1, marked(2)), d.Write(1, marked(2)))
	seen(t, d, 1, marked(2), marked(2))
	if d.Waits() != 3 {
		t.Fatalf("%d writes wait, not 3: what changes nothing waits, too", d.Waits())
	}
	d.Crash(Crash{})
	seen(t, d, 1, marked(2), marked(2))
}

func TestManyWritesOfOneSector(t *testing.T) {
	d, err := New(2)
	fine(t, err, d.Write(0, filled(9)))
	for n := range 1000 {
		fine(t, d.Write(1, filled(byte(n))))
		seen(t, d, 1, filled(byte(n)), noughts())
		if d.Waits() != n+2 {
			t.Fatalf("%d writes wait, not %d", d.Waits(), n+2)
		}
	}
	seen(t, d, 0, filled(9), noughts())
	c := d.Copy()
	c.Crash(Crash{Kept: 500})
	seen(t, c, 0, filled(9), filled(9))
	seen(t, c, 1, filled(498%256), filled(498%256))
	fine(t, d.Sync())
	seen(t, d, 0, filled(9), filled(9))
	seen(t, d, 1, filled(999%256), filled(999%256))
}

func TestADiskThatNewDidNotMake(t *testing.T) {
	d := new(Disk)
	if b, err := d.Read(0); b != nil || err == nil {
		t.Fatal("it has a sector that is seen")
	}
	if b, err := d.Sure(0); b != nil || err == nil {
		t.Fatal("it has a sector that is sure")
	}
	if d.Write(0, marked(1)) == nil || d.Size() != 0 || d.Waits() != 0 {
		t.Fatal("it has a sector that is written")
	}
	fine(t, d.Sync(), d.Arm(0))
	if d.Sync() == nil || !d.Gone() || !d.Copy().Gone() {
		t.Fatal("the power stays")
	}
	d.Crash(Crash{Kept: 3, Torn: 3, Scattered: 3})
	fine(t, d.Sync())
}
