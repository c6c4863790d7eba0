package sealed

import (
	"bailee/api"
	"bailee/label"
	"bailee/mac"
	"bailee/params"
	"bailee/shuffle"
	"bailee/stream"
)

// layout is where an object's blocks stand, and by which keys they are made.
type layout struct {
	keys  label.Keys
	order *shuffle.Order
	plain int // the file's blocks: the sentinels are behind them
}

// layoutOf is an object's layout.
func layoutOf(master []byte, number int, p params.Params) (layout, error) {
	plain, err := params.Plain(p)
	if err != nil {
		return layout{}, err
	}
	keys, err := label.All(master, number)
	if err != nil {
		return layout{}, err
	}
	order, err := shuffle.New(keys.Place, plain+p.Sentinels)
	if err != nil {
		return layout{}, err
	}
	return layout{keys, order, plain}, nil
}

// sentinels is how many sentinels there are.
func (l layout) sentinels() int { return l.order.Size() - l.plain }

// Place is where a block stands.
func Place(master []byte, number int, p params.Params, i int) (int, error) {
	l, err := layoutOf(master, number, p)
	if err != nil {
		return 0, err
	}
	return l.order.To(i)
}

// Back is which block stands at a place.
func Back(master []byte, number int, p params.Params, place int) (int, error) {
	l, err := layoutOf(master, number, p)
	if err != nil {
		return 0, err
	}
	return l.order.From(place)
}

// Sentinel is a sentinel's place, and what is stored there.
func Sentinel(master []byte, number int, p params.Params, j int) (int, []byte, error) {
	l, err := layoutOf(master, number, p)
	if err != nil {
		return 0, nil, err
	}
	if j < 0 || j >= l.sentinels() {
		return 0, nil, api.ErrBudget
	}
	place, err := l.order.To(l.plain + j)
	if err != nil {
		return 0, nil, err
	}
	block, err := stream.Block(l.keys.Sentinel, j)
	if err != nil {
		return 0, nil, err
	}
	return place, tagged(mac.Make(l.keys.Tag), place, block), nil
}
