// Package blocks: what stands in the blocks of an image, and what of it is
// reached.
package blocks

import (
	"cmp"
	"slices"

	"cairn/api"
	"cairn/layout"
	"cairn/words"
)

// Kind is what a thing in the blocks is.
type Kind int

// The kinds of things that a walk finds.
const (
	Free Kind = iota
	Object
	Wrong
)

// Thing is what a walk finds at a block: a free block, an object, or a wrong
// header. The handle is the number of its first block.
type Thing struct {
	Kind     Kind
	Handle   int
	Span     int
	Pointers int
}

// Walk goes through the blocks from the first on and tells each thing that it
// finds, one call for each. What a call puts at the thing that it is told of
// does not change where the walk goes on.
func Walk(row words.Row, tell func(Thing)) {
	last := layout.Blocks(row.Len())
	for block := 1; block <= last; {
		thing := find(row, block, last)
		tell(thing)
		block += thing.Span
	}
}

// find is the thing at a block; behind a wrong header the next block follows.
func find(row words.Row, block int, last int) Thing {
	header := row.Read(layout.BlockPlace(block))
	if header == 0 {
		return Thing{Kind: Free, Handle: block, Span: 1}
	}
	span, pointers, ok := layout.ParseHeader(header)
	if !ok || block+span-1 > last {
		return Thing{Kind: Wrong, Handle: block, Span: 1}
	}
	return Thing{Kind: Object, Handle: block, Span: span, Pointers: pointers}
}

// Place is the place of its header.
func (t Thing) Place() int { return layout.BlockPlace(t.Handle) }

// WordPlace is the place of its word with the number i; its pointers come
// first.
func (t Thing) WordPlace(i int) int { return t.Place() + 1 + i }

// Clear lets all its blocks be free.
func (t Thing) Clear(row words.Row) {
	for i := range t.Span {
		row.Put(layout.BlockPlace(t.Handle+i), 0)
	}
}

// Objects are those of an image, in the order of their handles.
type Objects []Thing

// Held is the object that a root or pointer with this word holds; not ok, if
// it holds none.
func (o Objects) Held(word uint64) (Thing, bool) {
	i, ok := slices.BinarySearchFunc(o, word, func(t Thing, word uint64) int {
		return cmp.Compare(uint64(t.Handle), word)
	})
	if !ok {
		return Thing{}, false
	}
	return o[i], true
}

// Dangling tells whether a root or pointer with this word is neither 0 nor
// holds an object.
func (o Objects) Dangling(word uint64) bool {
	_, ok := o.Held(word)
	return word != 0 && !ok
}

// Marks are set at the handles of some objects.
type Marks [api.MaxBlocks + 1]bool

// Reached marks the objects that a root holds, or a pointer of an object that
// is reached.
func (o Objects) Reached(row words.Row) Marks {
	var marks Marks
	var waiting []uint64
	for i := range api.Roots {
		waiting = append(waiting, row.Read(layout.RootPlace+i))
	}
	for len(waiting) > 0 {
		end := len(waiting) - 1
		object, ok := o.Held(waiting[end])
		waiting = waiting[:end]
		if !ok || marks[object.Handle] {
			continue
		}
		marks[object.Handle] = true
		for i := range object.Pointers {
			waiting = append(waiting, row.Read(object.WordPlace(i)))
		}
	}
	return marks
}
