package params

import (
	"errors"
	"fmt"
	"math"
	"testing"

	"bailee/api"
)

func TestErrorIsTheFieldAndTheValue(t *testing.T) {
	cases := []struct {
		w    Wrong
		want string
	}{
		{Wrong{"size", -1, api.ErrSize}, "size -1"},
		{Wrong{"size", 2001, api.ErrSize}, "size 2001"},
		{Wrong{"spots", 0, api.ErrRange}, "spots 0"},
		{Wrong{"patience", -10, nil}, "patience -10"},
		{Wrong{"", 7, api.ErrRange}, " 7"},
		{Wrong{}, " 0"},
		{Wrong{"a b", math.MaxInt32, api.ErrRange}, "a b 2147483647"},
		{Wrong{"retries", math.MinInt32, api.ErrRange}, "retries -2147483648"},
		{Wrong{"size", math.MaxInt, api.ErrSize}, fmt.Sprintf("size %d", math.MaxInt)},
		{Wrong{"size", math.MinInt, api.ErrSize}, fmt.Sprintf("size %d", math.MinInt)},
	}
	for _, c := range cases {
		if got := c.w.Error(); got != c.want {
			t.Errorf("%#v: %q, not %q", c.w, got, c.want)
		}
	}
	for i, name := range names() {
		p := with(Default(1), i, -12)
		if got := Check(p).Error(); got != name+" -12" {
			t.Errorf("Check(%v): %q", p, got)
		}
	}
}

func TestUnwrapIsWhatItWraps(t *testing.T) {
	own := errors.New("one's own")
	for _, err := range []error{nil, api.ErrSize, api.ErrLost, own, &Wrong{"size", 1, api.ErrSize}} {
		w := &Wrong{"size", 1, err}
		if got := w.Unwrap(); got != err {
			t.Errorf("it wraps %v, not %v", got, err)
		}
	}
	if w := (&Wrong{"size", 1, own}); !errors.Is(w, own) || errors.Is(w, api.ErrSize) {
		t.Error("errors.Is doesn't go by what it wraps")
	}
}

// bad is an error whose methods panic.
type bad struct{}

func (bad) Error() string { panic("Error") }
func (bad) Unwrap() error { panic("Unwrap") }

// worse is an error that panics when it is asked what it is.
type worse struct{}

func (worse) Error() string { return "worse" }
func (worse) As(any) bool   { panic("As") }

// around is an error that wraps one.
type around struct{ err error }

func (a *around) Error() string { return "around" }
func (a *around) Unwrap() error { return a.err }

func TestFieldOfWhatIsOrWrapsAWrong(t *testing.T) {
	w := &Wrong{"spots", -3, api.ErrRange}
	other := &Wrong{"size", 5, api.ErrSize}
	list := []error{
		w,
		&Wrong{"spots", -3, nil},
		&Wrong{"spots", -3, other},
		&Wrong{"spots", -3, bad{}},
		&around{w},
		&around{&around{&around{w}}},
		fmt.Errorf("it is so: %w", w),
		fmt.Errorf("%w and %w", api.ErrKey, w),
		errors.Join(api.ErrSize, w),
		errors.Join(&around{api.ErrKey}, &around{w}, other),
		errors.Join(w, other),
		errors.Join(w, bad{}),
		&around{Check(with(Default(1), 2, -3))},
	}
	for i, err := range list {
		if name, value, is := Field(err); !is || name != "spots" || value != -3 {
			t.Errorf("Field of number %d = %q, %d, %v", i, name, value, is)
		}
	}
	if name, value, is := Field(&Wrong{}); !is || name != "" || value != 0 {
		t.Errorf("Field of an empty one = %q, %d, %v", name, value, is)
	}
	deep := error(w)
	for range 1 << 16 {
		deep = &around{deep}
	}
	if name, value, is := Field(deep); !is || name != "spots" || value != -3 {
		t.Errorf("Field of a deep one = %q, %d, %v", name, value, is)
	}
}

func TestFieldWhereThereIsNone(t *testing.T) {
	list := []error{
		nil,
		api.ErrSize,
		api.ErrRange,
		errors.New("size -1"),
		errors.New(""),
		&around{api.ErrSize},
		&around{nil},
		errors.Join(api.ErrSize, api.ErrBudget),
		fmt.Errorf("size %d", -1),
		Check(Default(100)),
		(*Wrong)(nil),
		&around{(*Wrong)(nil)},
		(*around)(nil),
		bad{},
		worse{},
		&around{bad{}},
		errors.Join(worse{}, api.ErrSize),
	}
	for i, err := range list {
		if name, value, is := Field(err); is || name != "" || value != 0 {
			t.Errorf("Field of number %d = %q, %d, %v", i, name, value, is)
		}
	}
}

func TestFieldOfAllCallsErrors(t *testing.T) {
	for i, name := range names() {
		for _, value := range []int{math.MinInt, -1, 20000, math.MaxInt} {
			p := with(Default(1), i, value)
			_, stored := Stored(p)
			_, plain := Plain(p)
			_, made := Bytes(p)
			for _, err := range []error{Check(p), stored, plain, made} {
				if got, v, is := Field(err); !is || got != name || v != value || !errors.Is(err, wraps(i)) {
					t.Errorf("of %v: %q, %d, %v", p, got, v, is)
				}
			}
		}
	}
	b := bytesOf(Default(1))
	b[3] = 13
	if _, err := Parse(b); !errors.Is(err, api.ErrRange) {
		t.Errorf("Parse: %v", err)
	}
	_, err := Parse(b[:8])
	if _, _, is := Field(err); is {
		t.Error("that there aren't nine bytes is no field's fault")
	}
}
