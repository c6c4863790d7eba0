package opened

import (
	"encoding/hex"
	"slices"
	"strings"
	"testing"
)

// elsewhere is what another program sealed: the eleven bytes "what it was", by the bytes 0 to 19, for number 2026, with two sentinels.
const elsewhere = `
b67d5b64e28d8a0ed3de809135d86093
4a39d1b7a0eb5f31d3ef9337dac174f8
14d826a8a191205ca7a6c27691486cae
808ad2916cf14088d09810135570db0c
e58a61c68048a0b1b9e05f83a8e6e912
7bd6aaa292b41c55209906a62a8df56f
e9fb2d06fbe993c1044b1cdab3394fbc
b4ac39abc5cacc5960e67b00d0253eca
cdbb113e6fd719af27bbbde2bb05690e
0d7aace07797b6e351fc4c9620a133c9
b6d0bab9a2df024af5c93394d697282e
01e3b8ac0be2f698fb62cf7fddb07347
175f2e127afc15c37354a570baec804a
517eeb223ff196184a8146171c41d1ef
2c30e4cdc19ff6dcb3800a43b5e33c3b
059ea09dc76e35fd016b4b0ebf3ecfe5
860f001066bcd2c58d2af05be441bfc9
2ca374e1ff89a0a796c006e8c25ee6e5
52497f6cdfe7bdfb5599e816d70db3a6
d5e638c0b7ba9d2b491088fa39642314
98ec0bba447a8ecfd871a075aaebf756
7e0b9caff0a25b9d0f2d6cea1d458a72
fc3159d6a433a97ae6808bc9331b39d7
99b5b97a1a5396049e01e8eab3a8a36a
5f8583b9ce208f88d159ab5531a6f017
2ff8c947048c666d7e82455ded459192
0d56e72b0eab42428374e9dd29c6289e
593c48666337321f91e5876bec17fafe
7f2ca6d97dcdc4a71fdf85b87e12b1e3
db93ea55795e2d6c65e473c9471ec386
18af6c5c5098cdea080b3c3c51c2e7c8
ca5c0e2ef0c8965060ef5fbf5d5eef55
2c242dbf39d435d9ef57d8ec6b5a5606
09eee5a1eef4a55a42965e32c44dad65
618079e44f4d99262780ed0a5b08e069
ca955cb64e0962130cc1b3b8a7a1cbcc
`

// blocksElsewhere are some of its blocks, by number.
var blocksElsewhere = [...]struct {
	i, place int
	block    string
}{
	{0, 29, "7768617420697420"},
	{1, 19, "7761730000000000"},
	{2, 34, "05cd312ceb272ceb"},
	{3, 25, "fa5239febb4ffebb"},
	{18, 20, "a8af9fe007d8e007"},
	{32, 21, "00a557f424c9f424"},
	{33, 31, "059c934002504002"},
}

// unhexed are the lines of a text as bytes.
func unhexed(t *testing.T, text string) [][]byte {
	t.Helper()
	var list [][]byte
	for _, line := range strings.Fields(text) {
		b, err := hex.DecodeString(line)
		if err != nil {
			t.Fatal(err)
		}
		list = append(list, b)
	}
	return list
}

func TestOpensWhatWasSealedElsewhere(t *testing.T) {
	master, p, stored := rising(20), of(11, 2), unhexed(t, elsewhere)
	file, r, err := Open(master, 2026, p, stored)
	if err != nil || string(file) != "what it was" || r.Gone != 0 || !slices.Equal(r.Erased, []int{0}) || !slices.Equal(r.Errors, []int{0}) {
		t.Fatalf("Open = %q, %v, %v", file, r, err)
	}
	blocks, gone, err := Blocks(master, 2026, p, stored)
	if err != nil || gone != 0 || len(blocks) != 34 {
		t.Fatalf("Blocks = %x, %d, %v", blocks, gone, err)
	}
	for _, known := range blocksElsewhere {
		if hex.EncodeToString(blocks[known.i]) != known.block {
			t.Fatalf("block %d is %x", known.i, blocks[known.i])
		}
	}
	for k, known := range blocksElsewhere {
		stored[known.place] = nil
		blocks, gone, err := Blocks(master, 2026, p, stored)
		if err != nil || gone != k+1 || len(blocks[known.i]) != 0 {
			t.Fatalf("without what stands at %d, Blocks = %x, %d, %v", known.place, blocks, gone, err)
		}
	}
	file, r, err = Open(master, 2026, p, stored)
	if err != nil || string(file) != "what it was" || r.Gone != 7 || !slices.Equal(r.Erased, []int{7}) || !slices.Equal(r.Errors, []int{0}) {
		t.Fatalf("Open = %q, %v, %v", file, r, err)
	}
	// The sentinels stand at 33 and 12.
	stored[33], stored[12] = nil, nil
	if file, r, err = Open(master, 2026, p, stored); err != nil || string(file) != "what it was" || r.Gone != 9 || !slices.Equal(r.Erased, []int{7}) {
		t.Fatalf("Open = %q, %v, %v", file, r, err)
	}
}
