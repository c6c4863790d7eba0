package params

import (
	"errors"
	"strconv"
)

// Wrong is a field that isn't right.
type Wrong struct {
	Field string
	Value int
	Err   error
}

// Error is a text.
func (w *Wrong) Error() string { return w.Field + " " + strconv.Itoa(w.Value) }

// Unwrap is what it wraps.
func (w *Wrong) Unwrap() error { return w.Err }

// Field is which field isn't right.
func Field(err error) (string, int, bool) {
	w := wrongIn(err)
	if w == nil {
		return "", 0, false
	}
	return w.Field, w.Value, true
}

// wrongIn is the Wrong that an error is, or wraps; nil, if there is none.
func wrongIn(err error) (w *Wrong) {
	// An error that is handed in has methods of its own, which are asked here, and may panic.
	defer func() {
		if recover() != nil {
			w = nil
		}
	}()
	errors.As(err, &w)
	return w
}
