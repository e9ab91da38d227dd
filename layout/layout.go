// Package layout: where the words of an image stand, and what they are bound by.
package layout

import (
	"math/bits"

	"cairn/api"
)

// The places of the head's words that are named one by one.
const (
	MagicPlace  = 0
	BlocksPlace = 1
	SumPlace    = api.Head - 1
)

const (
	sumTurn   = 9
	sumFactor = 0x9e3779b97f4a7c15
)

// Sum is the sum of words as the head and the log carry it.
func Sum(words []uint64) uint64 {
	sum := uint64(0)
	for _, word := range words {
		sum = (bits.RotateLeft64(sum, sumTurn) ^ word) * sumFactor
	}
	return sum
}

// Fits tells whether an image may have so many blocks.
func Fits(blocks int) bool {
	return blocks >= 1 && blocks <= api.MaxBlocks
}

// Length is how many words an image with so many blocks has; only where they
// fit, since far away the product would wrap around.
func Length(blocks int) int {
	return api.Head + api.Log + api.Block*blocks
}

// Head is the first words of an image: an array, so that heads are values and
// two of them are compared by ==.
type Head [api.Head]uint64

// NewHead is the head of an image without roots and commits.
func NewHead(blocks int) Head {
	return Head{MagicPlace: api.Magic, BlocksPlace: uint64(blocks)}.Sealed()
}

// Sealed is the head with its sum made right.
func (h Head) Sealed() Head {
	h[SumPlace] = Sum(h[:SumPlace])
	return h
}
