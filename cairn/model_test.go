package cairn_test

import (
	"math/rand"
	"slices"
	"testing"

	"cairn/api"
	"cairn/cairn"
)

// model is the document's rules for a heap told once more, in the plainest
// way: two whole rows of words, one as it is kept and one as it is changed.
type model struct {
	kept, now []uint64
	stores    []api.Store
}

func (m *model) put(place int, value uint64) {
	m.kept[place] = value
	m.stores = append(m.stores, put(place, value))
}

func (m *model) flush() { m.stores = append(m.stores, flush) }

func (m *model) object(handle int) (span, pointers int, ok bool) {
	objects, _, _ := survey(m.now)
	if handle < 1 {
		return 0, 0, false
	}
	object, ok := objects[uint64(handle)]
	return object[0], object[1], ok
}

func (m *model) alloc(span, pointers int) (int, api.Errno) {
	if span < 1 || span > 4 || pointers < 0 || pointers > 8*span-1 {
		return 0, api.ErrArg
	}
	objects, _, _ := survey(m.now)
	taken := [40]int{}
	for handle, object := range objects {
		for b := range object[0] {
			taken[int(handle)+b] = 1
		}
	}
	n := int(m.now[1])
	for first := 1; first+span-1 <= n; first++ {
		if slices.Contains(taken[first:first+span], 1) {
			continue
		}
		clear(m.now[98+8*first : 98+8*(first+span)])
		m.now[98+8*first] = uint64(1000000 + 100*span + pointers)
		return first, api.OK
	}
	return 0, api.ErrSpace
}

func (m *model) free(handle int) api.Errno {
	span, _, ok := m.object(handle)
	if !ok {
		return api.ErrNone
	}
	objects, _, _ := survey(m.now)
	held := slices.Contains(m.now[3:7], uint64(handle))
	for other, object := range objects {
		first := 99 + 8*int(other)
		held = held || slices.Contains(m.now[first:first+object[1]], uint64(handle))
	}
	if held {
		return api.ErrHeld
	}
	for b := range span {
		m.now[98+8*(handle+b)] = 0
	}
	return api.OK
}

func (m *model) read(handle, i int) (uint64, api.Errno) {
	span, _, ok := m.object(handle)
	if !ok {
		return 0, api.ErrNone
	}
	if i < 0 || i > 8*span-2 {
		return 0, api.ErrArg
	}
	return m.now[99+8*handle+i], api.OK
}

func (m *model) write(handle, i int, value uint64) api.Errno {
	if _, e := m.read(handle, i); e != api.OK {
		return e
	}
	_, pointers, _ := m.object(handle)
	objects, _, _ := survey(m.now)
	if _, ok := objects[value]; i < pointers && value != 0 && !ok {
		return api.ErrPointer
	}
	m.now[99+8*handle+i] = value
	return api.OK
}

func (m *model) setRoot(i, handle int) api.Errno {
	if i < 0 || i > 3 {
		return api.ErrArg
	}
	if _, _, ok := m.object(handle); handle != 0 && !ok {
		return api.ErrNone
	}
	m.now[3+i] = uint64(handle)
	return api.OK
}

func (m *model) commit() api.Errno {
	if slices.Equal(m.kept[:8], m.now[:8]) && slices.Equal(m.kept[106:], m.now[106:]) {
		return api.OK
	}
	next := slices.Clone(m.now)
	next[2]++
	next[7] = cairn.Sum(next[:7])
	var records []uint64
	for place := range next {
		if (place < 8 || place > 105) && next[place] != m.kept[place] {
			records = append(records, uint64(place), next[place])
		}
	}
	if len(records) > 96 {
		return api.ErrLog
	}
	for i, word := range records {
		m.put(10+i, word)
	}
	count := uint64(len(records) / 2)
	m.put(9, cairn.Sum(append([]uint64{count}, records...)))
	m.flush()
	m.put(8, count)
	m.flush()
	for i := 0; i < len(records); i += 2 {
		m.put(int(records[i]), records[i+1])
	}
	m.flush()
	m.put(8, 0)
	m.flush()
	m.now = slices.Clone(m.kept)
	return api.OK
}

func (m *model) state() any {
	objects, _, _ := survey(m.now)
	var list []api.Object
	for handle := range 33 {
		if object, ok := objects[uint64(handle)]; ok {
			words := slices.Clone(m.now[99+8*handle : 98+8*(handle+object[0])])
			list = append(list, api.Object{Handle: handle, Span: object[0], Pointers: object[1], Words: words})
		}
	}
	var roots [4]int
	for i := range roots {
		roots[i] = int(m.now[3+i])
	}
	return [2]any{list, roots}
}

// step does one thing at random with both, and tells which and what came of it.
func (m *model) step(t *testing.T, r *rand.Rand, heap *cairn.Heap) (string, api.Errno) {
	t.Helper()
	n := int(m.now[1])
	handle, i := r.Intn(n+3)-1, r.Intn(12)-1
	if r.Intn(3) == 0 {
		i = r.Intn(34) - 1
	}
	value := uint64(r.Intn(n + 2))
	var name string
	var got, wanted [2]any
	switch r.Intn(16) {
	case 0, 1, 2:
		span, pointers := r.Intn(6), r.Intn(10)-1
		name, got, wanted = "Alloc", pair(heap.Alloc(span, pointers)), pair(m.alloc(span, pointers))
	case 3, 4:
		name, got, wanted = "Free", pair(0, heap.Free(handle)), pair(0, m.free(handle))
	case 5, 6:
		name, got, wanted = "Read", pair(heap.Read(handle, i)), pair(m.read(handle, i))
	case 7, 8, 9, 10, 11:
		name, got, wanted = "Write", pair(0, heap.Write(handle, i, value)), pair(0, m.write(handle, i, value))
	case 12, 13:
		root, handle := r.Intn(6)-1, r.Intn(2)*handle
		name, got, wanted = "SetRoot", pair(0, heap.SetRoot(root, handle)), pair(0, m.setRoot(root, handle))
	case 14:
		name, got, wanted = "Commit", pair(0, heap.Commit()), pair(0, m.commit())
	default:
		name, got, wanted = "Rollback", pair(0, api.OK), pair(0, api.OK)
		if r.Intn(3) == 0 {
			heap.Rollback()
			m.now = slices.Clone(m.kept)
		}
	}
	want(t, "P7, P8: "+name, got, wanted)
	return name, wanted[1].(api.Errno)
}

// sane is a strewn image that can be opened, though objects may be leaked.
func sane(r *rand.Rand) []uint64 {
	for {
		image := strewn(r)
		mendSome(r, image)
		if e, _ := expected(image); e == api.OK || e == api.ErrLeak {
			return image
		}
	}
}

func TestHeapsAgainstAPlainTelling(t *testing.T) {
	r := rand.New(rand.NewSource(3))
	type outcome struct {
		name string
		e    api.Errno
	}
	count := map[outcome]int{}
	for range 400 {
		image := sane(r)
		m := &model{kept: slices.Clone(image), now: slices.Clone(image)}
		heap := opened(t, image)
		for range 150 {
			name, e := m.step(t, r, heap)
			count[outcome{name, e}]++
			want(t, "P7: Objects and roots behind "+name, state(heap), m.state())
			want(t, "P8: Image behind "+name, heap.Image(), m.kept)
			if r.Intn(8) == 0 {
				if told := heap.Stores(); !slices.Equal(told, m.stores) {
					t.Errorf("P8: Stores behind %s = %v, want %v", name, told, m.stores)
				}
				m.stores = nil
			}
			if t.Failed() {
				return
			}
		}
	}
	for _, o := range []outcome{
		{"Alloc", api.OK}, {"Alloc", api.ErrArg}, {"Alloc", api.ErrSpace},
		{"Free", api.OK}, {"Free", api.ErrNone}, {"Free", api.ErrHeld},
		{"Read", api.OK}, {"Read", api.ErrNone}, {"Read", api.ErrArg},
		{"Write", api.OK}, {"Write", api.ErrNone}, {"Write", api.ErrArg}, {"Write", api.ErrPointer},
		{"SetRoot", api.OK}, {"SetRoot", api.ErrArg}, {"SetRoot", api.ErrNone},
		{"Commit", api.OK}, {"Commit", api.ErrLog},
	} {
		if count[o] < 10 {
			t.Errorf("%s answered %d only %d times", o.name, o.e, count[o])
		}
	}
}

func TestOpenOfStrewnImages(t *testing.T) {
	r := rand.New(rand.NewSource(4))
	for i := range 3000 {
		image := strewn(r)
		if i%2 == 0 {
			mendSome(r, image)
		}
		e, _ := expected(image)
		if e == api.ErrLeak {
			e = api.OK
		}
		wantOpen(t, "a strewn image", image, e)
	}
}
