// Package words: the one way in which the words of an image are read and put.
package words

// Row is a row of words. Who works on an image knows no more of it than this,
// so that the same work is done whether a word is kept as soon as it is put or
// only later.
type Row interface {
	Len() int
	Read(place int) uint64
	Put(place int, value uint64)
}

// Kept is a row whose words are kept at once: it is the list itself.
type Kept []uint64

// Len is how many words there are.
func (k Kept) Len() int { return len(k) }

// Read is the word at a place.
func (k Kept) Read(place int) uint64 { return k[place] }

// Put lets the word at a place be another one.
func (k Kept) Put(place int, value uint64) { k[place] = value }

// Copy is a row with the same words, in memory of its own.
func (k Kept) Copy() Kept {
	other := make(Kept, len(k))
	copy(other, k)
	return other
}
