package disk

import (
	"iter"

	"bailee/api"
)

// scatter is how many of the bits in Scattered tell of a write.
const scatter = 63

// Crash is what a crash leaves.
type Crash struct {
	Kept, Torn int
	Scattered  uint64
}

// settle makes sure what a crash leaves of the writes that wait: none waits then.
func (d *Disk) settle(c Crash) {
	for i, b := range c.done(d.waits) {
		s := d.sure[i]
		copy(s[:], b)
		d.sure[i] = s
	}
	d.waits = nil
	clear(d.last)
}

// done goes through the writes of which something is done, in order: their sectors, and what comes upon the first bytes there.
func (c Crash) done(waits []write) iter.Seq2[int, []byte] {
	return func(yield func(int, []byte) bool) {
		for n := range waits {
			if part := c.part(n); part > 0 && !yield(waits[n].at, waits[n].bytes[:part]) {
				return
			}
		}
	}
}

// part is how many bytes are done of one of the writes that wait.
func (c Crash) part(n int) int {
	kept := max(c.Kept, 0)
	switch {
	case n < kept || n > kept && c.scattered(n-kept-1):
		return api.Sector
	case n == kept:
		return min(max(c.Torn, 0), api.Sector)
	}
	return 0
}

// scattered tells whether the write that is so far behind the torn one is done.
func (c Crash) scattered(behind int) bool {
	return behind < scatter && c.Scattered>>behind&1 == 1
}
