// Package sound: whether an image is sound, and how it becomes so.
package sound

import (
	"cairn/api"
	"cairn/blocks"
	"cairn/layout"
	"cairn/words"
)

// Check tells what is wrong first with a row that has the shape of an image,
// and at which place.
func Check(row words.Row) (api.Errno, int) {
	if place, wrong := wrongHead(row); wrong {
		return api.ErrSuper, place
	}
	if row.Read(layout.LogPlace) != 0 {
		return api.ErrLog, layout.LogPlace
	}
	objects, wrong := blocks.Survey(row)
	if len(wrong) > 0 {
		return api.ErrHeader, wrong[0].Place()
	}
	return checkHolds(row, objects)
}

// wrongHead tells the first place at which the head is not as it must be. Only
// Magic, the number of blocks and the sum are bound, and the sum by the words
// ahead of it, so a head that differs otherwise differs there.
func wrongHead(row words.Row) (int, bool) {
	head := layout.HeadOf(row)
	fitted := head.Fitted(layout.Blocks(row.Len()))
	if head == fitted {
		return 0, false
	}
	place := 0
	for head[place] == fitted[place] {
		place++
	}
	return place, true
}

// checkHolds checks what roots and pointers hold, and that each object is
// reached.
func checkHolds(row words.Row, objects blocks.Objects) (api.Errno, int) {
	for i := range api.Roots {
		if place := layout.RootPlace + i; objects.Dangling(row.Read(place)) {
			return api.ErrRoot, place
		}
	}
	for _, object := range objects {
		for i := range object.Pointers {
			if place := object.WordPlace(i); objects.Dangling(row.Read(place)) {
				return api.ErrPointer, place
			}
		}
	}
	reached := objects.Reached(row)
	for _, object := range objects {
		if !reached[object.Handle] {
			return api.ErrLeak, object.Place()
		}
	}
	return api.OK, 0
}
