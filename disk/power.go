package disk

import "bailee/api"

// power is what a disk's deeds are done with.
type power struct {
	gone, armed bool
	left        int // how many further deeds it lasts for, if it is armed
}

// deed is nil if a deed may be done: it is counted then.
func (p *power) deed() error {
	if p.armed && p.left == 0 {
		p.gone = true
	}
	if p.gone {
		return api.ErrPower
	}
	if p.armed {
		p.left--
	}
	return nil
}
