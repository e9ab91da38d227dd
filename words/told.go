package words

import "cairn/api"

// Told is a row whose words are kept at once, and each store is noted until it
// is told.
type Told struct {
	Kept
	stores []api.Store
}

// NewTold is a row with the words of a list, which itself is not kept.
func NewTold(list []uint64) *Told {
	return &Told{Kept: Kept(list).Copy()}
}

// Put lets the word at a place be another one, and notes it.
func (t *Told) Put(place int, value uint64) {
	t.Kept.Put(place, value)
	t.stores = append(t.stores, api.Store{Kind: api.Put, At: place, Value: value})
}

// Flush notes that all that was put so far is there for ever.
func (t *Told) Flush() {
	t.stores = append(t.stores, api.Store{Kind: api.Flush})
}

// Tell hands over the stores since it was asked last.
func (t *Told) Tell() []api.Store {
	stores := t.stores
	t.stores = nil
	return stores
}
