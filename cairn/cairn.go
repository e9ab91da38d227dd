// Package cairn: objects in words that may lose their last stores: see DOC.md.
package cairn

import (
	"cairn/api"
	"cairn/layout"
	"cairn/sound"
	"cairn/words"
)

// Sum is the sum of some words (P3).
func Sum(words []uint64) uint64 { return layout.Sum(words) }

// Format makes an image without objects (P3).
func Format(blocks int) ([]uint64, api.Errno) {
	if !layout.Fits(blocks) {
		return nil, api.ErrArg
	}
	image := make([]uint64, layout.Length(blocks))
	head := layout.NewHead(blocks)
	copy(image, head[:])
	return image, api.OK
}

// Check looks whether words are an image, and a sound one (P4).
func Check(image []uint64) (api.Errno, int) {
	if !layout.Shaped(len(image)) {
		return api.ErrShape, 0
	}
	return sound.Check(words.Kept(image))
}

// Repair makes a sound image of what there is (P5).
func Repair(image []uint64) ([]uint64, api.Errno) {
	if !layout.Shaped(len(image)) {
		return nil, api.ErrShape
	}
	mended := words.Kept(image).Copy()
	if errno := sound.Repair(mended); errno != api.OK {
		return nil, errno
	}
	return mended, api.OK
}
