package sound

import (
	"cairn/api"
	"cairn/blocks"
	"cairn/journal"
	"cairn/layout"
	"cairn/words"
)

// Repair makes a row that has the shape of an image a sound one. With an error
// the row is left half mended.
func Repair(row words.Row) api.Errno {
	if records, ok := journal.Asked(row); ok {
		journal.Redo(row, records)
	}
	row.Put(layout.LogPlace, 0)
	if place, wrong := wrongHead(row); wrong && place != layout.SumPlace {
		return api.ErrSuper
	}
	objects, wrong := blocks.Survey(row)
	for _, thing := range wrong {
		thing.Clear(row)
	}
	mendHolds(row, objects)
	row.Put(layout.SumPlace, layout.HeadOf(row).Sealed()[layout.SumPlace])
	return api.OK
}

// mendHolds takes away what roots and pointers hold in vain, and the objects
// that are not reached. What dangles reaches nothing, so the objects that are
// reached are the same ahead of the mending and behind it.
func mendHolds(row words.Row, objects blocks.Objects) {
	for i := range api.Roots {
		mendHold(row, objects, layout.RootPlace+i)
	}
	reached := objects.Reached(row)
	for _, object := range objects {
		if !reached[object.Handle] {
			object.Clear(row)
			continue
		}
		for i := range object.Pointers {
			mendHold(row, objects, object.WordPlace(i))
		}
	}
}

// mendHold lets the root or pointer at a place be 0, if it holds no object.
func mendHold(row words.Row, objects blocks.Objects, place int) {
	if objects.Dangling(row.Read(place)) {
		row.Put(place, 0)
	}
}
