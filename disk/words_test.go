package disk

import (
	"bytes"
	"errors"
	"math"
	"slices"
	"testing"

	"bailee/api"
)

// noughts is a sector at first.
func noughts() []byte { return make([]byte, 64) }

// marked is a sector's bytes, no two of which are the same, and none of which other marks up to 3 have.
func marked(mark int) []byte {
	b := noughts()
	for j := range b {
		b[j] = byte(mark*64 + j)
	}
	return b
}

// filled is a sector of one byte.
func filled(b byte) []byte { return bytes.Repeat([]byte{b}, 64) }

// written is a write that waits.
type written struct {
	at int
	b  []byte
}

// words is a disk as the document words it.
type words struct {
	sure  [][]byte
	waits []written
	armed []int // how many further deeds; none if it isn't armed
	gone  bool
}

// byWords is a disk of noughts, or ErrRange.
func byWords(sectors int) (*words, error) {
	if sectors < 1 || sectors > 2048 {
		return nil, api.ErrRange
	}
	w := &words{}
	for range sectors {
		w.sure = append(w.sure, noughts())
	}
	return w, nil
}

// lacks is ErrRange, if there is no such sector.
func (w *words) lacks(i int) error {
	if i < 0 || i >= len(w.sure) {
		return api.ErrRange
	}
	return nil
}

func (w *words) read(i int) ([]byte, error) {
	if err := w.lacks(i); err != nil {
		return nil, err
	}
	if w.gone {
		return nil, api.ErrPower
	}
	for n := len(w.waits) - 1; n >= 0; n-- {
		if w.waits[n].at == i {
			return w.waits[n].b, nil
		}
	}
	return w.sure[i], nil
}

func (w *words) surely(i int) ([]byte, error) {
	if err := w.lacks(i); err != nil {
		return nil, err
	}
	return w.sure[i], nil
}

// deed is a deed, and whether it is done.
func (w *words) deed() error {
	switch {
	case w.gone:
		return api.ErrPower
	case len(w.armed) == 0:
		return nil
	case w.armed[0] == 0:
		w.gone = true
		return api.ErrPower
	}
	w.armed = []int{w.armed[0] - 1}
	return nil
}

func (w *words) write(i int, b []byte) error {
	if err := w.lacks(i); err != nil {
		return err
	}
	if len(b) != 64 {
		return api.ErrSize
	}
	if err := w.deed(); err != nil {
		return err
	}
	w.waits = append(w.waits, written{i, slices.Clone(b)})
	return nil
}

func (w *words) sync() error {
	if err := w.deed(); err != nil {
		return err
	}
	for _, x := range w.waits {
		w.sure[x.at] = x.b
	}
	w.waits = nil
	return nil
}

func (w *words) arm(deeds int) error {
	if deeds < 0 {
		return api.ErrRange
	}
	if w.gone {
		return api.ErrPower
	}
	w.armed = []int{deeds}
	return nil
}

// doneByWords tells whether a crash does byte j of write n: each byte of each write is asked for itself.
func (c Crash) doneByWords(n, j int) bool {
	kept := c.Kept
	if kept < 0 {
		kept = 0
	}
	if n < kept {
		return true
	}
	if n == kept {
		return j < c.Torn
	}
	bits := c.Scattered
	for range n - kept - 1 {
		bits /= 2
	}
	return n-kept-1 < 63 && bits%2 == 1
}

func (w *words) crash(c Crash) {
	after := make([][]byte, len(w.sure))
	for i := range w.sure {
		after[i] = slices.Clone(w.sure[i])
	}
	for n, x := range w.waits {
		for j := range 64 {
			if c.doneByWords(n, j) {
				after[x.at][j] = x.b[j]
			}
		}
	}
	*w = words{sure: after}
}

// copied is one apart.
func (w *words) copied() *words {
	other := &words{armed: slices.Clone(w.armed), gone: w.gone}
	for _, b := range w.sure {
		other.sure = append(other.sure, slices.Clone(b))
	}
	for _, x := range w.waits {
		other.waits = append(other.waits, written{x.at, slices.Clone(x.b)})
	}
	return other
}

// same tells whether an error is the one that is wanted.
func same(got, want error) bool {
	if want == nil || got == nil {
		return want == nil && got == nil
	}
	return errors.Is(got, want)
}

// sectorsOf are a disk's sectors, and some that it hasn't.
func sectorsOf(size int) []int {
	list := []int{-1, -2, size, size + 1, math.MinInt, math.MaxInt, -size, math.MinInt32, math.MaxInt32}
	for i := range size {
		list = append(list, i)
	}
	return list
}

// holds holds all that a disk answers without a deed against the document's words.
func holds(t *testing.T, d *Disk, w *words, sectors []int) {
	t.Helper()
	if d.Size() != len(w.sure) || d.Waits() != len(w.waits) || d.Gone() != w.gone {
		t.Fatalf("%d sectors, %d writes wait, gone is %v; not %d, %d, %v", d.Size(), d.Waits(), d.Gone(), len(w.sure), len(w.waits), w.gone)
	}
	for _, i := range sectors {
		got, err := d.Read(i)
		want, wrong := w.read(i)
		if !same(err, wrong) || !bytes.Equal(got, want) || err != nil && got != nil {
			t.Fatalf("of sector %d is seen %x, %v; not %x, %v", i, got, err, want, wrong)
		}
		got, err = d.Sure(i)
		want, wrong = w.surely(i)
		if !same(err, wrong) || !bytes.Equal(got, want) || err != nil && got != nil {
			t.Fatalf("of sector %d is sure %x, %v; not %x, %v", i, got, err, want, wrong)
		}
	}
}

// pair is a disk, and one of the document's words.
type pair struct {
	d *Disk
	w *words
}

// pairOf is a disk of noughts, twice.
func pairOf(t *testing.T, sectors int) pair {
	t.Helper()
	d, err := New(sectors)
	w, wrong := byWords(sectors)
	if err != nil || wrong != nil {
		t.Fatalf("%d sectors: %v, %v", sectors, err, wrong)
	}
	return pair{d, w}
}

// answer holds an answer against what the words answer.
func answer(t *testing.T, what string, got, want error) {
	t.Helper()
	if !same(got, want) {
		t.Fatalf("%s: %v, not %v", what, got, want)
	}
}

func (p pair) write(t *testing.T, i int, b []byte) {
	t.Helper()
	answer(t, "a write", p.d.Write(i, b), p.w.write(i, b))
}

func (p pair) sync(t *testing.T) {
	t.Helper()
	answer(t, "a sync", p.d.Sync(), p.w.sync())
}

func (p pair) arm(t *testing.T, deeds int) {
	t.Helper()
	answer(t, "arming", p.d.Arm(deeds), p.w.arm(deeds))
}

func (p pair) crash(c Crash) {
	p.d.Crash(c)
	p.w.crash(c)
}

func (p pair) copied() pair { return pair{p.d.Copy(), p.w.copied()} }

func (p pair) holds(t *testing.T) {
	t.Helper()
	holds(t, p.d, p.w, sectorsOf(len(p.w.sure)))
}
