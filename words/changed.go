package words

import (
	"maps"
	"slices"
)

// Changed is a row over another one, which stays as it is: what is put is kept
// beside it, to go through the log later. Only words that are others than in
// the row below are kept, so a word that is put back is no change.
type Changed struct {
	below   Row
	changes map[int]uint64
}

// NewChanged is a row over another one, without changes.
func NewChanged(below Row) *Changed {
	return &Changed{below: below, changes: map[int]uint64{}}
}

// Len is how many words there are.
func (c *Changed) Len() int { return c.below.Len() }

// Read is the word at a place, changed or not.
func (c *Changed) Read(place int) uint64 {
	if value, ok := c.changes[place]; ok {
		return value
	}
	return c.below.Read(place)
}

// Put lets the word at a place be another one, in this row alone.
func (c *Changed) Put(place int, value uint64) {
	if value == c.below.Read(place) {
		delete(c.changes, place)
		return
	}
	c.changes[place] = value
}

// Places are those at which a word is another one than in the row below, in
// order.
func (c *Changed) Places() []int {
	return slices.Sorted(maps.Keys(c.changes))
}

// Copy is a row over the same one, with the same changes, that goes its own
// way.
func (c *Changed) Copy() *Changed {
	return &Changed{below: c.below, changes: maps.Clone(c.changes)}
}

// Drop forgets all changes.
func (c *Changed) Drop() { clear(c.changes) }
