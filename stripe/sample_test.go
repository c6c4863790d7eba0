package stripe

import (
	"bytes"
	"math"
	"slices"
	"testing"

	"bailee/api"
	"bailee/field"
)

// numbers makes numbers that look like chance, the same ones each time.
func numbers(seed uint32) func() int {
	return func() int {
		seed = seed*1664525 + 1013904223
		return int(seed >> 8)
	}
}

// fileOf is a file of so many bytes, none of them nought: so no byte of it looks like what is behind it.
func fileOf(size int) []byte {
	next, file := numbers(uint32(size)), make([]byte, size)
	for i := range file {
		file[i] = byte(next()%255 + 1)
	}
	return file
}

// some are so many of 0 to n - 1, in an order that looks like chance.
func some(n, many int, next func() int) []int {
	all := make([]int, n)
	for i := range all {
		all[i] = i
	}
	for i := range all {
		j := i + next()%(n-i)
		all[i], all[j] = all[j], all[i]
	}
	return all[:many]
}

// sizes are some that a file may have: the edges of blocks, of groups, and of what there may be at most.
func sizes() []int {
	return []int{0, 1, 7, 8, 9, 12, 16, 17, 255, 256, 1000, 1776, 1777, 1783, 1784, 1785, 1786, 1792, 1793, 1991, 1992, 1993, 1999, 2000}
}

// wrongSizes are some that no file has.
func wrongSizes() []int {
	return []int{math.MinInt, math.MinInt32, -9, -8, -1, 2001, 2008, 1 << 16, math.MaxInt32, math.MaxInt - 7, math.MaxInt}
}

// shapeOf is how many data blocks each group of a file has, block by block.
func shapeOf(size int) []int {
	shape := []int{0}
	for at := 0; at < size || at == 0; at += 8 {
		if shape[len(shape)-1] == 223 {
			shape = append(shape, 0)
		}
		shape[len(shape)-1]++
	}
	return shape
}

// parts are the groups of all blocks of a file.
func parts(blocks [][]byte, size int) [][][]byte {
	var list [][][]byte
	for _, data := range shapeOf(size) {
		list = append(list, blocks[:data+32])
		blocks = blocks[data+32:]
	}
	return list
}

// coded tells whether a word's polynomial is 0 at the powers 0 to 31 of alpha.
func coded(word []byte) bool {
	for j := range 32 {
		var sum byte
		for _, symbol := range word {
			sum = field.Mul(sum, field.Exp(j)) ^ symbol
		}
		if sum != 0 {
			return false
		}
	}
	return true
}

// blocksOf are all blocks of a file.
func blocksOf(t *testing.T, file []byte) [][]byte {
	t.Helper()
	blocks, err := Blocks(file)
	if err != nil {
		t.Fatal(err)
	}
	return blocks
}

// copied are blocks in memory of their own; those that aren't there aren't.
func copied(blocks [][]byte) [][]byte {
	list := make([][]byte, len(blocks))
	for i, block := range blocks {
		list[i] = slices.Clone(block)
	}
	return list
}

// change makes a block another one: one byte of it, or all, or some.
func change(block []byte, next func() int) {
	at, other := next()%len(block), next()%3
	for j := range block {
		if j == at || other == 0 || other == 1 && next()%2 == 0 {
			block[j] ^= byte(next()%255 + 1)
		}
	}
}

// harm makes the first e of places gone, and all others of them changed.
func harm(group [][]byte, places []int, e int, next func() int) {
	for i, place := range places {
		if i < e {
			group[place] = unlike(next())
		} else {
			change(group[place], next)
		}
	}
}

// unlike is what is no block: too few bytes, or too many.
func unlike(which int) []byte {
	lists := [][]byte{nil, {}, {0}, make([]byte, api.Block-1), make([]byte, api.Block+1), make([]byte, api.Stored), bytes.Repeat([]byte{7}, 100)}
	return lists[which%len(lists)]
}

// roomy is a list with more behind it, all of it told.
func roomy(list []byte) []byte {
	return append(append(make([]byte, 0, len(list)+19), list...), bytes.Repeat([]byte{123}, 19)...)
}
