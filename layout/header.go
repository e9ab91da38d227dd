package layout

import "cairn/api"

// A header counts its spans by this much, which leaves room for the number of
// pointers of the widest object.
const spanUnit = 100

// Words is how many words behind its header an object of that span has.
func Words(span int) int {
	return api.Block*span - 1
}

// ParseHeader tells the span and the pointers that a header names; not ok, if
// the word is the header of no object, wherever it stands.
func ParseHeader(word uint64) (span int, pointers int, ok bool) {
	// The upper bound comes ahead of the narrowing to int, which would let
	// great words look small.
	if word < api.Tag || word >= api.Tag+spanUnit*(api.MaxSpan+1) {
		return 0, 0, false
	}
	rest := int(word - api.Tag)
	span, pointers = rest/spanUnit, rest%spanUnit
	if span < 1 || pointers > Words(span) {
		return 0, 0, false
	}
	return span, pointers, true
}
