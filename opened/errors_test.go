package opened

import (
	"errors"
	"math"
	"testing"

	"bailee/api"
	"bailee/params"
	"bailee/sha"
)

// someMasters are master keys, and what are none.
func someMasters() [][]byte {
	list := [][]byte{nil, {}, message(1000, 1)}
	for _, size := range []int{1, 15, 16, 64, 65} {
		list = append(list, message(size, 1), message(200, 2)[:size])
	}
	return list
}

// someNumbers are numbers of objects, and what are none.
func someNumbers() []int {
	return []int{math.MinInt, -maxNumber, -1, 0, 7, maxNumber, maxNumber + 1, math.MaxInt}
}

// someParams are parameters that are right, and some of which a field, or more than one, isn't.
func someParams() []params.Params {
	return []params.Params{
		of(12, 4), of(0, 0), of(12, 0),
		of(-1, 0), of(2001, 0), of(12, -1), of(12, 9), of(2001, 9), of(-1, -1),
		of(math.MaxInt, 0), of(math.MinInt, 0), of(12, math.MaxInt), of(12, math.MinInt),
		{}, {Size: 12, Spots: 13, Period: 1, Patience: 1}, {Size: 12, Spots: 1}, {Size: 12, Spots: 1, Period: 2, Patience: 3},
		{Size: 12, Spots: 1, Period: 1, Patience: 1, Retries: 6}, {Size: 12, Spots: 1, Period: 10001, Patience: 1},
	}
}

// keyFault is layer 9's error, by the document's words.
func keyFault(master []byte, number int) error {
	switch {
	case len(master) < 16 || len(master) > 64:
		return api.ErrKey
	case number < 0 || number > maxNumber:
		return api.ErrRange
	}
	return nil
}

// first is the first of faults that there is.
func first(faults ...error) error {
	for _, fault := range faults {
		if fault != nil {
			return fault
		}
	}
	return nil
}

// when is an error, if something is so.
func when(is bool, err error) error {
	if is {
		return err
	}
	return nil
}

// holdsFault holds that an error is the one that is wanted, with its field and value, if it has these.
func holdsFault(t *testing.T, what string, got, want error) {
	t.Helper()
	if want == nil {
		if got != nil {
			t.Fatalf("%s: %v", what, got)
		}
		return
	}
	var wrong, told *params.Wrong
	if errors.As(want, &wrong) {
		if !errors.As(got, &told) || *told != *wrong {
			t.Fatalf("%s: %v, not %v", what, got, want)
		}
		return
	}
	if errors.As(got, &told) || !errors.Is(got, want) {
		t.Fatalf("%s: %v, not %v", what, got, want)
	}
}

// noReport tells whether a report is the zero value.
func noReport(r Report) bool { return r.Gone == 0 && r.Erased == nil && r.Errors == nil }

func TestErrorsInTheirOrder(t *testing.T) {
	lists := [][][]byte{nil, make([][]byte, 33), make([][]byte, 34), make([][]byte, 38), make([][]byte, 600)}
	for _, master := range someMasters() {
		for _, number := range someNumbers() {
			for _, p := range someParams() {
				for _, stored := range lists {
					many := 33 + max(p.Size-1, 0)/8 + p.Sentinels
					want := first(params.Check(p), keyFault(master, number), when(len(stored) != many, api.ErrForm))
					blocks, gone, err := Blocks(master, number, p, stored)
					holdsFault(t, "Blocks", err, want)
					if want != nil && (blocks != nil || gone != 0) || want == nil && (len(blocks) != many-p.Sentinels || gone != many) {
						t.Fatalf("Blocks(%v) = %x, %d, %v", p, blocks, gone, err)
					}
					// Where there is nothing, all is lost.
					want = first(want, api.ErrLost)
					file, r, err := Open(master, number, p, stored)
					holdsFault(t, "Open", err, want)
					again, err := Restore(master, number, p, stored, sha.Digest{})
					holdsFault(t, "Restore", err, want)
					if file != nil || again != nil || !noReport(r) {
						t.Fatalf("beside an error, Open(%v) = %x, %v, Restore %x", p, file, r, again)
					}
				}
			}
		}
	}
}
