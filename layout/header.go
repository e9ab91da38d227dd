package layout

import "cairn/api"

// A header counts its spans by this much, which leaves room for the number of
// pointers of the widest object.
const spanUnit = 100

// Words is how many words behind its header an object of that span has.
func Words(span int) int {
	return api.Block*span - 1
}

// Header is the header of an object with that span and so many pointers.
func Header(span int, pointers int) uint64 {
	return uint64(api.Tag + spanUnit*span + pointers)
}

// Proper tells whether there may be an object with that span and so many
// pointers.
func Proper(span int, pointers int) bool {
	return span >= 1 && span <= api.MaxSpan && pointers >= 0 && pointers <= Words(span)
}

// ParseHeader tells the span and the pointers that a header names; not ok, if
// the word is the header of no object, wherever it stands.
func ParseHeader(word uint64) (span int, pointers int, ok bool) {
	// The upper bound comes ahead of the narrowing to int, which would let
	// great words look small.
	if word < api.Tag || word >= api.Tag+spanUnit*(api.MaxSpan+1) {
		return 0, 0, false
	}
	rest := int(word - api.Tag)
	span, pointers = rest/spanUnit, rest%spanUnit
	if !Proper(span, pointers) {
		return 0, 0, false
	}
	return span, pointers, true
}
