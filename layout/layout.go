// Package layout: where the words of an image stand, and what they are bound by.
package layout

import (
	"math/bits"

	"cairn/api"
	"cairn/words"
)

// The places of the words that are named one by one; the roots and the log's
// records go on from theirs.
const (
	MagicPlace   = 0
	BlocksPlace  = 1
	CommitsPlace = 2
	RootPlace    = 3
	SumPlace     = api.Head - 1
	LogPlace     = api.Head
	LogSumPlace  = LogPlace + 1
	RecordsPlace = LogPlace + 2
	blocksStart  = api.Head + api.Log
)

const (
	sumTurn   = 9
	sumFactor = 0x9e3779b97f4a7c15
)

// Sum is the sum of words as the head and the log carry it.
func Sum(list []uint64) uint64 {
	sum := uint64(0)
	for _, word := range list {
		sum = (bits.RotateLeft64(sum, sumTurn) ^ word) * sumFactor
	}
	return sum
}

// Fits tells whether an image may have so many blocks.
func Fits(blocks int) bool {
	return blocks >= 1 && blocks <= api.MaxBlocks
}

// Length is how many words an image with so many blocks has; only where they
// fit, since far away the product would wrap around.
func Length(blocks int) int {
	return blocksStart + api.Block*blocks
}

// Blocks is how many blocks an image with so many words has; only where it has
// the shape of one.
func Blocks(length int) int {
	return (length - blocksStart) / api.Block
}

// Shaped tells whether an image may have so many words.
func Shaped(length int) bool {
	blocks := Blocks(length)
	return Fits(blocks) && Length(blocks) == length
}

// BlockPlace is the place of a block's first word; blocks count from 1 on.
func BlockPlace(block int) int {
	return blocksStart + api.Block*(block-1)
}

// IsRoot tells whether there is a root with the number i.
func IsRoot(i int) bool {
	return i >= 0 && i < api.Roots
}

// Logged tells whether a record may name that place, in an image with so many
// words: any but those of the log itself.
func Logged(place uint64, length int) bool {
	return place < api.Head || place >= blocksStart && place < uint64(length)
}

// Head is the first words of an image: an array, so that heads are values and
// two of them are compared by ==.
type Head [api.Head]uint64

// NewHead is the head of an image without roots and commits.
func NewHead(blocks int) Head {
	return Head{}.Fitted(blocks)
}

// HeadOf is the head of a row.
func HeadOf(row words.Row) Head {
	var head Head
	for place := range head {
		head[place] = row.Read(place)
	}
	return head
}

// Fitted is the head as it must be for so many blocks; commits and roots are
// as they were.
func (h Head) Fitted(blocks int) Head {
	h[MagicPlace] = api.Magic
	h[BlocksPlace] = uint64(blocks)
	return h.Sealed()
}

// Next is the head behind one commit more.
func (h Head) Next() Head {
	h[CommitsPlace]++
	return h.Sealed()
}

// Sealed is the head with its sum made right.
func (h Head) Sealed() Head {
	h[SumPlace] = Sum(h[:SumPlace])
	return h
}
