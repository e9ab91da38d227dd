// Package blocks: what stands in the blocks of an image, and what of it is
// reached.
package blocks

import (
	"cmp"
	"slices"

	"cairn/api"
	"cairn/layout"
	"cairn/words"
)

// Kind is what a thing in the blocks is.
type Kind int

// The kinds of things that a walk finds.
const (
	Free Kind = iota
	Object
	Wrong
)

// Thing is what a walk finds at a block: a free block, an object, or a wrong
// header. The handle is the number of its first block.
type Thing struct {
	Kind     Kind
	Handle   int
	Span     int
	Pointers int
}

// Walk goes through the blocks from the first on and tells each thing that it
// finds, one call for each. What a call puts at the thing that it is told of
// does not change where the walk goes on.
func Walk(row words.Row, tell func(Thing)) {
	last := layout.Blocks(row.Len())
	for block := 1; block <= last; {
		thing := find(row, block, last)
		tell(thing)
		block += thing.Span
	}
}

// find is the thing at a block; behind a wrong header the next block follows.
func find(row words.Row, block int, last int) Thing {
	header := row.Read(layout.BlockPlace(block))
	if header == 0 {
		return Thing{Kind: Free, Handle: block, Span: 1}
	}
	span, pointers, ok := layout.ParseHeader(header)
	if !ok || block+span-1 > last {
		return Thing{Kind: Wrong, Handle: block, Span: 1}
	}
	return Thing{Kind: Object, Handle: block, Span: span, Pointers: pointers}
}

// Survey gathers the objects and the wrong headers that a walk finds.
func Survey(row words.Row) (objects Objects, wrong []Thing) {
	Walk(row, func(thing Thing) {
		switch thing.Kind {
		case Object:
			objects = append(objects, thing)
		case Wrong:
			wrong = append(wrong, thing)
		}
	})
	return objects, wrong
}

// Room is the first block of the first row of so many free ones; not ok, if
// there is no such row.
func Room(row words.Row, span int) (block int, ok bool) {
	free := 0
	Walk(row, func(thing Thing) {
		if thing.Kind != Free {
			free = 0
			return
		}
		free++
		if free == span && !ok {
			block, ok = thing.Handle-span+1, true
		}
	})
	return block, ok
}

// Place is the place of its header.
func (t Thing) Place() int { return layout.BlockPlace(t.Handle) }

// WordPlace is the place of its word with the number i; its pointers come
// first.
func (t Thing) WordPlace(i int) int { return t.Place() + 1 + i }

// Has tells whether it has a word with the number i.
func (t Thing) Has(i int) bool { return i >= 0 && i < layout.Words(t.Span) }

// Words are its words behind its header.
func (t Thing) Words(row words.Row) []uint64 {
	list := make([]uint64, layout.Words(t.Span))
	for i := range list {
		list[i] = row.Read(t.WordPlace(i))
	}
	return list
}

// Make lets it be an object without anything in it; its blocks, while they
// were free, may have had anything in them.
func (t Thing) Make(row words.Row) {
	row.Put(t.Place(), layout.Header(t.Span, t.Pointers))
	for i := range layout.Words(t.Span) {
		row.Put(t.WordPlace(i), 0)
	}
}

// Clear lets all its blocks be free.
func (t Thing) Clear(row words.Row) {
	for i := range t.Span {
		row.Put(layout.BlockPlace(t.Handle+i), 0)
	}
}

// Objects are those of an image, in the order of their handles.
type Objects []Thing

// Held is the object that a root or pointer with this word holds; not ok, if
// it holds none.
func (o Objects) Held(word uint64) (Thing, bool) {
	i, ok := slices.BinarySearchFunc(o, word, func(t Thing, word uint64) int {
		return cmp.Compare(uint64(t.Handle), word)
	})
	if !ok {
		return Thing{}, false
	}
	return o[i], true
}

// Dangling tells whether a root or pointer with this word is neither 0 nor
// holds an object.
func (o Objects) Dangling(word uint64) bool {
	_, ok := o.Held(word)
	return word != 0 && !ok
}

// Holds tells whether a root, or a pointer of any of the objects, is this word.
func (o Objects) Holds(row words.Row, word uint64) bool {
	for i := range api.Roots {
		if row.Read(layout.RootPlace+i) == word {
			return true
		}
	}
	for _, object := range o {
		for i := range object.Pointers {
			if row.Read(object.WordPlace(i)) == word {
				return true
			}
		}
	}
	return false
}

// Marks are set at the handles of some objects.
type Marks [api.MaxBlocks + 1]bool

// Reached marks the objects that a root holds, or a pointer of an object that
// is reached.
func (o Objects) Reached(row words.Row) Marks {
	var marks Marks
	var waiting []uint64
	for i := range api.Roots {
		waiting = append(waiting, row.Read(layout.RootPlace+i))
	}
	for len(waiting) > 0 {
		end := len(waiting) - 1
		object, ok := o.Held(waiting[end])
		waiting = waiting[:end]
		if !ok || marks[object.Handle] {
			continue
		}
		marks[object.Handle] = true
		for i := range object.Pointers {
			waiting = append(waiting, row.Read(object.WordPlace(i)))
		}
	}
	return marks
}
