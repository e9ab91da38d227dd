// Package cairn: objects in words that may lose their last stores: see DOC.md.
package cairn

import (
	"cairn/api"
	"cairn/layout"
	"cairn/sound"
	"cairn/words"
)

// Sum is the sum of some words (P3).
func Sum(words []uint64) uint64 { return layout.Sum(words) }

// Format makes an image without objects (P3).
func Format(blocks int) ([]uint64, api.Errno) {
	if !layout.Fits(blocks) {
		return nil, api.ErrArg
	}
	image := make([]uint64, layout.Length(blocks))
	head := layout.NewHead(blocks)
	copy(image, head[:])
	return image, api.OK
}

// Check looks whether words are an image, and a sound one (P4).
func Check(image []uint64) (api.Errno, int) {
	if !layout.Shaped(len(image)) {
		return api.ErrShape, 0
	}
	return sound.Check(words.Kept(image))
}

// Repair makes a sound image of what there is (P5).
func Repair(image []uint64) ([]uint64, api.Errno) {
	if !layout.Shaped(len(image)) {
		return nil, api.ErrShape
	}
	mended := make([]uint64, len(image))
	copy(mended, image)
	if errno := sound.Repair(words.Kept(mended)); errno != api.OK {
		return nil, errno
	}
	return mended, api.OK
}

// Heap is the objects of an image.
type Heap struct{}

// Open reads an image, and what its log asks for (P6).
func Open(image []uint64) (*Heap, api.Errno) { return nil, api.OK }

// Alloc makes an object (P7).
func (h *Heap) Alloc(span int, pointers int) (int, api.Errno) { return 0, api.OK }

// Free takes one away (P7).
func (h *Heap) Free(handle int) api.Errno { return api.OK }

// Read tells a word of one (P7).
func (h *Heap) Read(handle int, i int) (uint64, api.Errno) { return 0, api.OK }

// Write puts a word into one (P7).
func (h *Heap) Write(handle int, i int, value uint64) api.Errno { return api.OK }

// Root tells what a root holds (P7).
func (h *Heap) Root(i int) (int, api.Errno) { return 0, api.OK }

// SetRoot lets a root hold an object, or nothing (P7).
func (h *Heap) SetRoot(i int, handle int) api.Errno { return api.OK }

// Objects tells all objects (P7).
func (h *Heap) Objects() []api.Object { return nil }

// Commit keeps what was changed (P8).
func (h *Heap) Commit() api.Errno { return api.OK }

// Rollback forgets it (P8).
func (h *Heap) Rollback() {}

// Stores tells the stores since it was asked last (P8).
func (h *Heap) Stores() []api.Store { return nil }

// Image tells the words as they are now (P8).
func (h *Heap) Image() []uint64 { return nil }
