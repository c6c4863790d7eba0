package params

import (
	"errors"
	"math"
	"testing"

	"bailee/api"
	"bailee/stripe"
)

// holdsWrong holds that an error is a *Wrong of field i of these parameters, with its value, and wraps what it should.
func holdsWrong(t *testing.T, what string, err error, p Params, i int) {
	t.Helper()
	w, is := err.(*Wrong)
	if !is || w == nil || w.Field != names()[i] || w.Value != *field(&p, i) || w.Err != wraps(i) || !errors.Is(err, wraps(i)) {
		t.Fatalf("%s(%v): %#v, not a Wrong of %s", what, p, err, names()[i])
	}
	if name, value, is := Field(err); !is || name != names()[i] || value != *field(&p, i) {
		t.Fatalf("%s(%v): Field tells %q, %d, %v, not %s", what, p, name, value, is, names()[i])
	}
}

func TestCheckByTheDocumentsWords(t *testing.T) {
	right, wrong := 0, [6]int{}
	for p := range sample() {
		err, i := Check(p), firstWrong(p)
		if i < 0 {
			right++
			if err != nil {
				t.Fatalf("Check(%v): %v", p, err)
			}
			continue
		}
		wrong[i]++
		holdsWrong(t, "Check", err, p, i)
	}
	if right < 500 {
		t.Errorf("no more than %d were right", right)
	}
	for i, many := range wrong {
		if many < 100 {
			t.Errorf("no more than %d were wrong first in %s", many, names()[i])
		}
	}
}

func TestCheckEachSizeAndPeriod(t *testing.T) {
	for value := -300; value < 70000; value++ {
		for i := range names() {
			p := with(rights()[2], i, value)
			if err := Check(p); (err == nil) != (firstWrong(p) < 0) {
				t.Fatalf("Check(%v): %v", p, err)
			}
		}
	}
}

func TestPatienceIsBoundByThePeriod(t *testing.T) {
	for _, period := range []int{1, 2, 3, 20, 255, 256, 5000, 9999, 10000} {
		for patience := -2; patience < 10005; patience++ {
			p := Params{Spots: 1, Period: period, Patience: patience}
			err := Check(p)
			if patience >= 1 && patience <= period {
				if err != nil {
					t.Fatalf("Check(%v): %v", p, err)
				}
				continue
			}
			holdsWrong(t, "Check", err, p, 4)
		}
	}
}

func TestTheFirstOfManyFaults(t *testing.T) {
	// All fields are wrong; then one by one is made right, in their order.
	p := Params{-1, 9, 0, 10001, 0, -1}
	for i := range names() {
		holdsWrong(t, "Check", Check(p), p, i)
		*field(&p, i) = 1
	}
	if err := Check(p); err != nil {
		t.Fatalf("Check(%v): %v", p, err)
	}
	// A patience that is right for no period, beside a period that is wrong.
	for _, period := range []int{math.MinInt, -5, 0, 10001, math.MaxInt} {
		p := with(with(Default(1), 3, period), 4, -6)
		holdsWrong(t, "Check", Check(p), p, 3)
	}
}

func TestWhatIsNothingIsNotRight(t *testing.T) {
	holdsWrong(t, "Check", Check(Params{}), Params{}, 2)
}

func TestNumbersOfBlocks(t *testing.T) {
	for p := range sample() {
		stored, err := Stored(p)
		plain, fault := Plain(p)
		if i := firstWrong(p); i >= 0 {
			holdsWrong(t, "Stored", err, p, i)
			holdsWrong(t, "Plain", fault, p, i)
			if stored != 0 || plain != 0 {
				t.Fatalf("beside an error of %v: %d stored, %d plain", p, stored, plain)
			}
			continue
		}
		want := blocksOf(p.Size)
		if err != nil || fault != nil || stored != want+p.Sentinels || plain != want {
			t.Fatalf("of %v: %d, %v stored, %d, %v plain, not %d", p, stored, err, plain, fault, want)
		}
	}
}

func TestNumbersOfBlocksOfEachSize(t *testing.T) {
	for size := range 2001 {
		total, _ := stripe.Total(size)
		for sentinels := range 9 {
			p := with(Default(size), 1, sentinels)
			stored, err := Stored(p)
			plain, fault := Plain(p)
			if err != nil || fault != nil || plain != total || stored != total+sentinels || plain != blocksOf(size) {
				t.Fatalf("of %v: %d, %v stored, %d, %v plain, not %d", p, stored, err, plain, fault, total)
			}
			// No spot check asks for more than there are.
			if plain < api.MaxSpots {
				t.Fatalf("of %d bytes there are %d blocks", size, plain)
			}
		}
	}
}

func TestNumbersOfBlocksThatAreKnown(t *testing.T) {
	cases := []struct{ size, sentinels, stored, plain int }{
		{0, 0, 33, 33}, {0, 8, 41, 33}, {8, 1, 34, 33}, {9, 1, 35, 34}, {100, 4, 49, 45},
		{1784, 0, 255, 255}, {1785, 2, 290, 288}, {2000, 0, 314, 314}, {2000, 8, 322, 314},
	}
	for _, c := range cases {
		p := with(Default(c.size), 1, c.sentinels)
		stored, err := Stored(p)
		plain, fault := Plain(p)
		if err != nil || fault != nil || stored != c.stored || plain != c.plain {
			t.Errorf("of %d bytes, %d sentinels: %d, %v stored, %d, %v plain", c.size, c.sentinels, stored, err, plain, fault)
		}
	}
}

func TestWindowAndBudgetByTheDocumentsWords(t *testing.T) {
	for p := range sample() {
		window, budget := 0, 0
		if firstWrong(p) < 0 {
			window, budget = p.Period+p.Patience, p.Sentinels
			for range p.Retries {
				window += p.Patience
			}
		}
		if got := Window(p); got != window {
			t.Fatalf("Window(%v) = %d, not %d", p, got, window)
		}
		if got := Budget(p); got != budget {
			t.Fatalf("Budget(%v) = %d, not %d", p, got, budget)
		}
	}
}

func TestWindowsAndBudgetsThatAreKnown(t *testing.T) {
	cases := []struct {
		p              Params
		window, budget int
	}{
		{Default(100), 32, 4},
		{Default(2001), 0, 0},
		{Default(-1), 0, 0},
		{Params{0, 0, 1, 1, 1, 0}, 2, 0},
		{Params{2000, 8, 12, 10000, 10000, 5}, 70000, 8},
		{Params{2000, 8, 12, 10000, 10000, 6}, 0, 0},
		{Params{2000, 9, 12, 10000, 10000, 5}, 0, 0},
		{Params{5, 7, 3, 50, 7, 3}, 78, 7},
		{Params{}, 0, 0},
	}
	for _, c := range cases {
		if window, budget := Window(c.p), Budget(c.p); window != c.window || budget != c.budget {
			t.Errorf("of %v: %d and %d, not %d and %d", c.p, window, budget, c.window, c.budget)
		}
	}
}

func TestDefault(t *testing.T) {
	for _, size := range edges()[0] {
		want := Params{Size: size, Sentinels: 4, Spots: 4, Period: 20, Patience: 4, Retries: 2}
		if got := Default(size); got != want {
			t.Errorf("Default(%d) = %v", size, got)
		}
	}
	for size := -20; size < 2020; size++ {
		p := Default(size)
		if err := Check(p); (err == nil) != (size >= 0 && size <= 2000) {
			t.Errorf("Check(%v): %v", p, err)
		}
	}
	if err := Check(Default(100)); err != nil {
		t.Errorf("that of 100 bytes: %v", err)
	}
}
