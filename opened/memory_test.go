package opened

import (
	"bytes"
	"crypto/sha256"
	"slices"
	"testing"
)

// spoil writes over a list, and the room behind it.
func spoil[T byte | int](list []T) {
	for i := range list[:cap(list)] {
		list[:cap(list)][i] += 101
	}
}

// roomy is a list with more behind it, all of it told.
func roomy(list []byte) []byte { return slices.Concat(list, bytes.Repeat([]byte{123}, 30)) }

// roomyLists are lists with more behind each, and others behind all.
func roomyLists(lists [][]byte) [][]byte {
	all := make([][]byte, 0, len(lists)+2)
	for _, b := range lists {
		all = append(all, roomy(b)[:len(b)])
	}
	return append(all, []byte{1}, []byte{2})[:len(lists)]
}

// inFull are lists with the room behind each, and behind all.
func inFull(lists [][]byte) [][]byte {
	var all [][]byte
	for _, b := range lists[:cap(lists)] {
		all = append(all, slices.Clone(b[:cap(b)]))
	}
	return all
}

// damaged is an object of which some blocks are gone, and some changed.
func damaged(t *testing.T, o object) laid {
	t.Helper()
	l, next := lay(t, o), numbers(uint32(o.number))
	for _, group := range l.groups(t) {
		l.harm(l.stored, some(group, 9, next), 5, next)
	}
	return l
}

func TestNothingGivenIsChanged(t *testing.T) {
	for _, o := range few() {
		l := damaged(t, o)
		master, stored := roomy(o.master), roomyLists(l.stored)
		blocks, _ := l.blocksOf(l.stored)
		blocks = roomyLists(blocks)
		wasMaster, wasStored, wasBlocks := slices.Clone(master), inFull(stored), inFull(blocks)
		for _, key := range [][]byte{master[:len(o.master)], master[:15]} {
			for _, list := range [][][]byte{stored, stored[:3], stored[:len(stored)+1]} {
				Blocks(key, o.number, o.p, list)
				Open(key, o.number, o.p, list)
				Restore(key, o.number, o.p, list, sha256.Sum256(o.file))
				Restore(key, o.number, o.p, list, [32]byte{})
			}
		}
		Load(o.p, blocks)
		Load(o.p, blocks[:2])
		if !bytes.Equal(master, wasMaster) || !slices.EqualFunc(inFull(stored), wasStored, bytes.Equal) || !slices.EqualFunc(inFull(blocks), wasBlocks, bytes.Equal) {
			t.Fatalf("of %v, something given, or the room behind it, was changed", o.p)
		}
		r := Report{3, []int{1, 2, 40}[:2], []int{3, 4, 50}[:2]}
		Enough(r)
		if !slices.Equal(r.Erased[:3], []int{1, 2, 40}) || !slices.Equal(r.Errors[:3], []int{3, 4, 50}) {
			t.Fatalf("a report was changed: %v", r)
		}
	}
}

func TestFilesAreTheCallersAlone(t *testing.T) {
	for _, o := range few() {
		l := damaged(t, o)
		was := copied(l.stored)
		file, r, err := Open(o.master, o.number, o.p, l.stored)
		if err != nil {
			t.Fatal(err)
		}
		erased, changed := slices.Clone(r.Erased), slices.Clone(r.Errors)
		spoil(file)
		spoil(r.Erased)
		if !slices.Equal(r.Errors, changed) {
			t.Fatalf("of %v, writing over one list changed another", o.p)
		}
		spoil(r.Errors)
		again, err := Restore(o.master, o.number, o.p, l.stored, sha256.Sum256(o.file))
		if err != nil || !bytes.Equal(again, o.file) {
			t.Fatalf("of %v, Restore = %x, %v", o.p, again, err)
		}
		spoil(again)
		if !slices.EqualFunc(l.stored, was, bytes.Equal) {
			t.Fatalf("of %v, writing over answers changed what was given", o.p)
		}
		holdsOpen(t, o, l.stored, r.Gone, erased, changed)
	}
}

func TestBlocksAreTheCallersAlone(t *testing.T) {
	for _, o := range few() {
		l := damaged(t, o)
		was := copied(l.stored)
		want, gone := l.blocksOf(l.stored)
		blocks, _, err := Blocks(o.master, o.number, o.p, l.stored)
		if err != nil {
			t.Fatal(err)
		}
		for i := range blocks {
			// What was written over ahead of it left this one as it was.
			if !bytes.Equal(blocks[i], want[i]) {
				t.Fatalf("of %v, block %d was changed", o.p, i)
			}
			spoil(blocks[i])
		}
		for _, behind := range blocks[len(blocks):cap(blocks)] {
			if behind != nil {
				t.Fatalf("of %v, there is %x behind the blocks", o.p, behind)
			}
		}
		if !slices.EqualFunc(l.stored, was, bytes.Equal) {
			t.Fatalf("of %v, writing over blocks changed what was given", o.p)
		}
		holdsBlocks(t, o, l.stored, want, gone)
		for _, b := range l.stored {
			spoil(b)
		}
		if again, _ := l.blocksOf(was); !slices.EqualFunc(want, again, bytes.Equal) {
			t.Fatalf("of %v, writing over what was given changed the blocks", o.p)
		}
	}
}

func TestWritingOverWhatWasGivenChangesNoAnswer(t *testing.T) {
	for _, o := range few() {
		l := damaged(t, o)
		want, _ := l.blocksOf(l.stored)
		master := slices.Clone(o.master)
		blocks, _, err := Blocks(master, o.number, o.p, l.stored)
		file, _, err2 := Open(master, o.number, o.p, l.stored)
		if err != nil || err2 != nil {
			t.Fatal(err, err2)
		}
		spoil(master)
		for _, b := range l.stored {
			spoil(b)
		}
		if !slices.EqualFunc(blocks, want, bytes.Equal) || !bytes.Equal(file, o.file) {
			t.Fatalf("of %v, writing over what was given changed what was answered", o.p)
		}
	}
}

func TestLoadIsTheCallersAlone(t *testing.T) {
	blocks := make([][]byte, 314)
	load, err := Load(of(2000, 0), blocks)
	if err != nil {
		t.Fatal(err)
	}
	spoil(load)
	holdsLoad(t, of(2000, 0), blocks, 255, 59)
}

func TestTheSameEachTime(t *testing.T) {
	for _, o := range few() {
		l := damaged(t, o)
		one, r, err := Open(o.master, o.number, o.p, l.stored)
		if err != nil {
			t.Fatal(err)
		}
		for range 3 {
			two, again, err := Open(o.master, o.number, o.p, l.stored)
			if err != nil || !bytes.Equal(one, two) || r.Gone != again.Gone || !slices.Equal(r.Erased, again.Erased) || !slices.Equal(r.Errors, again.Errors) {
				t.Fatalf("of %v, what is opened twice isn't the same", o.p)
			}
		}
	}
}
