package cairn

import (
	"cairn/api"
	"cairn/blocks"
	"cairn/journal"
	"cairn/layout"
	"cairn/sound"
	"cairn/words"
)

// Heap is the objects of an image: its words, and over them what was changed
// since the last Commit.
type Heap struct {
	told    *words.Told
	changed *words.Changed
}

// Open reads an image, and what its log asks for (P6).
func Open(image []uint64) (*Heap, api.Errno) {
	if !layout.Shaped(len(image)) {
		return nil, api.ErrShape
	}
	told := words.NewTold(image)
	if !journal.Recover(told) {
		return nil, api.ErrLog
	}
	if errno, _ := sound.Check(told); errno != api.OK && errno != api.ErrLeak {
		return nil, errno
	}
	return &Heap{told: told, changed: words.NewChanged(told)}, api.OK
}

// Alloc makes an object (P7).
func (h *Heap) Alloc(span int, pointers int) (int, api.Errno) {
	if !layout.Proper(span, pointers) {
		return 0, api.ErrArg
	}
	block, ok := blocks.Room(h.changed, span)
	if !ok {
		return 0, api.ErrSpace
	}
	object := blocks.Thing{Kind: blocks.Object, Handle: block, Span: span, Pointers: pointers}
	object.Make(h.changed)
	return object.Handle, api.OK
}

// Free takes one away (P7).
func (h *Heap) Free(handle int) api.Errno {
	objects := h.objects()
	object, ok := objects.Held(uint64(handle))
	if !ok {
		return api.ErrNone
	}
	if objects.Holds(h.changed, uint64(handle)) {
		return api.ErrHeld
	}
	object.Clear(h.changed)
	return api.OK
}

// Read tells a word of one (P7).
func (h *Heap) Read(handle int, i int) (uint64, api.Errno) {
	object, ok := h.objects().Held(uint64(handle))
	if !ok {
		return 0, api.ErrNone
	}
	if !object.Has(i) {
		return 0, api.ErrArg
	}
	return h.changed.Read(object.WordPlace(i)), api.OK
}

// Write puts a word into one (P7).
func (h *Heap) Write(handle int, i int, value uint64) api.Errno {
	objects := h.objects()
	object, ok := objects.Held(uint64(handle))
	if !ok {
		return api.ErrNone
	}
	if !object.Has(i) {
		return api.ErrArg
	}
	if i < object.Pointers && objects.Dangling(value) {
		return api.ErrPointer
	}
	h.changed.Put(object.WordPlace(i), value)
	return api.OK
}

// Root tells what a root holds (P7).
func (h *Heap) Root(i int) (int, api.Errno) {
	if !layout.IsRoot(i) {
		return 0, api.ErrArg
	}
	return int(h.changed.Read(layout.RootPlace + i)), api.OK
}

// SetRoot lets a root hold an object, or nothing (P7).
func (h *Heap) SetRoot(i int, handle int) api.Errno {
	if !layout.IsRoot(i) {
		return api.ErrArg
	}
	if h.objects().Dangling(uint64(handle)) {
		return api.ErrNone
	}
	h.changed.Put(layout.RootPlace+i, uint64(handle))
	return api.OK
}

// Objects tells all objects (P7).
func (h *Heap) Objects() []api.Object {
	var list []api.Object
	for _, object := range h.objects() {
		list = append(list, api.Object{
			Handle:   object.Handle,
			Span:     object.Span,
			Pointers: object.Pointers,
			Words:    object.Words(h.changed),
		})
	}
	return list
}

// Commit keeps what was changed (P8).
func (h *Heap) Commit() api.Errno { return journal.Commit(h.told, h.changed) }

// Rollback forgets it (P8).
func (h *Heap) Rollback() { h.changed.Drop() }

// Stores tells the stores since it was asked last (P8).
func (h *Heap) Stores() []api.Store { return h.told.Tell() }

// Image tells the words as they are now (P8).
func (h *Heap) Image() []uint64 { return h.told.Copy() }

// objects are those of the image with what was changed.
func (h *Heap) objects() blocks.Objects {
	objects, _ := blocks.Survey(h.changed)
	return objects
}
