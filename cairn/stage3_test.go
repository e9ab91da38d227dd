package cairn_test

import (
	"math"
	"reflect"
	"slices"
	"testing"

	"cairn/api"
	"cairn/cairn"
)

// numbers are such as an argument may be, its edges among them.
var numbers = []int{math.MinInt, math.MinInt + 1, -1 << 32, -8, -1, 0, 1, 2, 3, 4, 5, 6, 7, 8, 15, 16, 23, 24, 31, 32, 33, 1 << 32, 1<<32 + 1, 1 << 60, 1<<61 + 1, math.MaxInt - 1, math.MaxInt}

func opened(t *testing.T, image []uint64) *cairn.Heap {
	t.Helper()
	heap, e := cairn.Open(image)
	if heap == nil || e != api.OK {
		t.Fatalf("P6: Open = a heap %t, %d", heap != nil, e)
	}
	return heap
}

func wantOpen(t *testing.T, name string, image []uint64, want api.Errno) {
	t.Helper()
	before := slices.Clone(image)
	if heap, e := cairn.Open(image); e != want || (heap != nil) != (e == api.OK) {
		t.Errorf("P6: %s: Open = a heap %t, %d, want %d", name, heap != nil, e, want)
	}
	if !slices.Equal(image, before) {
		t.Errorf("P2: %s: the list that was handed in is another one", name)
	}
}

func want(t *testing.T, name string, got, want any) {
	t.Helper()
	if !reflect.DeepEqual(got, want) {
		t.Errorf("%s = %v, want %v", name, got, want)
	}
}

// pair is what a call answers.
func pair[V any](value V, e api.Errno) [2]any { return [2]any{value, e} }

func put(place int, value uint64) api.Store {
	return api.Store{Kind: 1, At: place, Value: value}
}

var flush = api.Store{Kind: 2}

// over is the image with stores put into it.
func over(image []uint64, stores []api.Store) []uint64 {
	image = slices.Clone(image)
	for _, s := range stores {
		if s.Kind == api.Put {
			image[s.At] = s.Value
		}
	}
	return image
}

// state is all that a heap tells of its objects and roots.
func state(heap *cairn.Heap) any {
	var roots [4]int
	for i := range roots {
		roots[i], _ = heap.Root(i)
	}
	objects := heap.Objects()
	if len(objects) == 0 {
		objects = nil
	}
	return [2]any{objects, roots}
}

func TestOpenShape(t *testing.T) {
	for length := range 500 {
		words := make([]uint64, length)
		e := api.ErrShape
		if length >= 114 && length <= 362 && (length-106)%8 == 0 {
			e = api.ErrSuper
		}
		wantOpen(t, "zeros", words, e)
	}
	wantOpen(t, "nil", nil, api.ErrShape)
	for n := 1; n <= 32; n++ {
		wantOpen(t, "an image", laid(n, nil), api.OK)
	}
}

func TestOpenErrors(t *testing.T) {
	// Mended one by one from the front, the faults are told in their order.
	image := laid(4, at{0: 1, 1: 9, 8: 49, 4: 3, 106: 1000101, 107: 4, 130: 1, 7: 3})
	for _, s := range []struct {
		place int
		word  uint64
		e     api.Errno
	}{
		{8, 0, api.ErrLog},
		{0, api.Magic, api.ErrSuper},
		{1, 4, api.ErrSuper},
		{7, cairn.Sum([]uint64{api.Magic, 4, 0, 0, 3, 0, 0}), api.ErrSuper},
		{130, 0, api.ErrHeader},
		{122, one, api.ErrRoot},
		{107, 1, api.ErrPointer},
	} {
		wantOpen(t, "faults from behind", image, s.e)
		image[s.place] = s.word
	}
	wantCheck(t, "a leak alone", image, api.ErrLeak, 106)
	wantOpen(t, "a leak alone", image, api.OK)
	want(t, "P6: objects with a leak", len(opened(t, image).Objects()), 2)
}

func TestOpenWrongLogs(t *testing.T) {
	log := withLog(laid(2, nil), 3, 107, 5, 108, 6, 109, 7)
	wantOpen(t, "a log", log, api.OK)
	for place := 8; place < 16; place++ {
		for bit := range 64 {
			wrong := slices.Clone(log)
			wrong[place] ^= 1 << bit
			wantOpen(t, "a bit of the log", wrong, api.ErrLog)
		}
	}
	for _, place := range []uint64{8, 9, 10, 105, 122, 361, 1 << 32, 1<<32 + 107, 1 << 63, full} {
		wantOpen(t, "a place", withLog(laid(2, nil), 2, 107, 5, place, 6), api.ErrLog)
		wantOpen(t, "a first place", withLog(laid(2, nil), 2, place, 6, 107, 5), api.ErrLog)
	}
	for _, count := range []uint64{49, 50, 1 << 32, 1 << 63, full} {
		wantOpen(t, "too many records", laid(32, at{8: count}), api.ErrLog)
	}
	records := slices.Repeat([]uint64{107, 1}, 49)
	long := laid(4, nil)
	copy(long[10:], records)
	long[8], long[9] = 49, cairn.Sum(append([]uint64{49}, records...))
	long[106], long[107] = 0, 1
	wantOpen(t, "a log beyond its end", long, api.ErrLog)
	wantOpen(t, "words that an empty log has left", laid(2, at{9: 1, 10: 8, 105: full}), api.OK)
}

func TestOpenDoesWhatTheLogAsks(t *testing.T) {
	sum := uint64(0xf024c82e4e2e4376)
	image := laid(1, at{8: 3, 9: 0x42c08e04b69f0ab9, 10: 3, 11: 1, 12: 7, 13: sum, 14: 106, 15: one})
	heap := opened(t, image)
	stores := heap.Stores()
	want(t, "P6: Stores", stores, []api.Store{put(3, 1), put(7, sum), put(106, one), flush, put(8, 0), flush})
	want(t, "P8: Image", heap.Image(), over(image, stores))
	want(t, "P7: Root(0)", pair(heap.Root(0)), pair(1, api.OK))
	want(t, "P7: Objects", heap.Objects(), []api.Object{{Handle: 1, Span: 1, Words: make([]uint64, 7)}})
	want(t, "P8: Stores again", len(heap.Stores()), 0)
	want(t, "P8: Commit of nothing", heap.Commit(), api.OK)
	want(t, "P8: Stores behind it", len(heap.Stores()), 0)

	wantOpen(t, "a head that the log mends", withLog(laid(2, at{0: 1, 1: 9}), 3, 0, api.Magic, 1, 2, 7, 0x75dd912dbd13ba67), api.OK)
	wantOpen(t, "a head that the log spoils", withLog(laid(2, nil), 1, 1, 3), api.ErrSuper)
	wantOpen(t, "a header that the log spoils", withLog(laid(2, nil), 1, 106, 3), api.ErrHeader)
	wantOpen(t, "a pointer that the log spoils", withLog(laid(2, at{3: 1, 106: 1000101}), 1, 107, 3), api.ErrPointer)
	wantOpen(t, "objects that the log mends", withLog(laid(2, at{3: 1, 106: 7, 114: 9}), 2, 114, 0, 106, one), api.OK)

	var records []uint64
	var puts []api.Store
	for i := range uint64(48) {
		records = append(records, 107, i)
		puts = append(puts, put(107, i))
	}
	heap = opened(t, withLog(laid(1, at{3: 1, 106: one}), 48, records...))
	want(t, "P6: Stores of the longest log", heap.Stores(), append(puts, flush, put(8, 0), flush))
	want(t, "P6: the last value", pair(heap.Read(1, 0)), pair(uint64(47), api.OK))
}

func TestExample(t *testing.T) {
	heap := opened(t, laid(2, nil))
	want(t, "P7: Alloc(1, 1)", pair(heap.Alloc(1, 1)), pair(1, api.OK))
	want(t, "P7: Alloc(2, 0)", pair(heap.Alloc(2, 0)), pair(0, api.ErrSpace))
	want(t, "P7: SetRoot(0, 1)", heap.SetRoot(0, 1), api.OK)
	want(t, "P7: Write(1, 0, 2)", heap.Write(1, 0, 2), api.ErrPointer)
	want(t, "P7: Write(1, 0, 1)", heap.Write(1, 0, 1), api.OK)
	want(t, "P8: Image ahead of Commit", heap.Image(), laid(2, nil))
	want(t, "P8: Stores ahead of Commit", len(heap.Stores()), 0)
	want(t, "P8: Commit", heap.Commit(), api.OK)
	head, log := uint64(0x1ba94df0e5992e60), uint64(0x77c41cbd48ba3c37)
	stores := heap.Stores()
	want(t, "P8: Stores", stores, []api.Store{
		put(10, 2), put(11, 1), put(12, 3), put(13, 1), put(14, 7), put(15, head),
		put(16, 106), put(17, 1000101), put(18, 107), put(19, 1),
		put(9, log), flush, put(8, 5), flush,
		put(2, 1), put(3, 1), put(7, head), put(106, 1000101), put(107, 1), flush,
		put(8, 0), flush,
	})
	want(t, "P8: Image", heap.Image(), over(laid(2, nil), stores))
	want(t, "P7: Free(1)", heap.Free(1), api.ErrHeld)

	heap.SetRoot(0, 0)
	heap.Write(1, 0, 0)
	want(t, "P7: Free(1)", heap.Free(1), api.OK)
	want(t, "P8: Commit", heap.Commit(), api.OK)
	image := heap.Image()
	want(t, "P8: the second head", image[:8], []uint64{api.Magic, 2, 2, 0, 0, 0, 0, 0x9b070f4e1619f08d})
	want(t, "P8: the second log", image[8:20], []uint64{0, 0x1eb6f353386989cc, 2, 2, 3, 0, 7, 0x9b070f4e1619f08d, 106, 0, 107, 0})
}

func TestAllocArguments(t *testing.T) {
	image := laid(32, nil)
	for _, span := range numbers {
		for _, pointers := range numbers {
			heap := opened(t, image)
			handle, e := heap.Alloc(span, pointers)
			ok := span >= 1 && span <= 4 && pointers >= 0 && pointers < 8*span
			if !ok {
				want(t, "P7: Alloc of what can't be", pair(handle, e), pair(0, api.ErrArg))
				want(t, "P1: Objects behind an error", len(heap.Objects()), 0)
				continue
			}
			want(t, "P7: Alloc", pair(handle, e), pair(1, api.OK))
			want(t, "P7: Objects", heap.Objects(), []api.Object{{Handle: 1, Span: span, Pointers: pointers, Words: make([]uint64, 8*span-1)}})
		}
	}
	full := opened(t, laid(1, at{106: one}))
	want(t, "P7: ErrArg ahead of ErrSpace", pair(full.Alloc(1, 8)), pair(0, api.ErrArg))
	want(t, "P7: ErrSpace", pair(full.Alloc(1, 7)), pair(0, api.ErrSpace))
}

func TestAllocFindsTheFirstRow(t *testing.T) {
	// Free are 2, 4 to 5, 8 to 10 and 13; the object at 6 has a block that
	// looks free.
	image := laid(13, at{106: one, 122: one, 146: two, 186: two})
	for _, c := range []struct{ span, handle int }{{1, 2}, {2, 4}, {3, 8}} {
		want(t, "P7: Alloc", pair(opened(t, image).Alloc(c.span, 0)), pair(c.handle, api.OK))
	}
	want(t, "P7: Alloc of too much", pair(opened(t, image).Alloc(4, 0)), pair(0, api.ErrSpace))
	heap := opened(t, image)
	for _, handle := range []int{2, 4, 5, 8, 9, 10, 13} {
		want(t, "P7: Alloc of single blocks", pair(heap.Alloc(1, 0)), pair(handle, api.OK))
	}
	want(t, "P7: Alloc of one more", pair(heap.Alloc(1, 0)), pair(0, api.ErrSpace))
	last := opened(t, laid(4, nil))
	want(t, "P7: Alloc(4, 31)", pair(last.Alloc(4, 31)), pair(1, api.OK))
	want(t, "P7: Alloc(1, 0)", pair(last.Alloc(1, 0)), pair(0, api.ErrSpace))
	short := opened(t, laid(3, nil))
	want(t, "P7: Alloc(4, 0) in three", pair(short.Alloc(4, 0)), pair(0, api.ErrSpace))
	for _, handle := range []int{1, 2, 3} {
		want(t, "P7: Alloc(1, 0)", pair(short.Alloc(1, 0)), pair(handle, api.OK))
	}
	short.Free(2)
	want(t, "P7: Alloc(2, 0) where one is free", pair(short.Alloc(2, 0)), pair(0, api.ErrSpace))
	short.Free(3)
	want(t, "P7: Alloc(2, 0) where two are", pair(short.Alloc(2, 0)), pair(2, api.OK))
}

func TestAllocLeavesNothingOfWhatWasThere(t *testing.T) {
	image := laid(3, nil)
	for place := 107; place < 130; place++ {
		if place%8 != 2 {
			image[place] = uint64(place)
		}
	}
	heap := opened(t, image)
	want(t, "P7: Alloc(2, 3)", pair(heap.Alloc(2, 3)), pair(1, api.OK))
	want(t, "P7: Objects", heap.Objects(), []api.Object{{Handle: 1, Span: 2, Pointers: 3, Words: make([]uint64, 15)}})
	want(t, "P8: Commit", heap.Commit(), api.OK)
	got := heap.Image()
	want(t, "P8: the words behind the header", got[107:122], make([]uint64, 15))
	want(t, "P8: the block behind it", got[122:], image[122:])
	// Place 114 was 0 before: it is no record. 2, 7, 106, then 14 words.
	want(t, "P8: the number of stores", len(heap.Stores()), 3*17+7)
}

func TestFree(t *testing.T) {
	image := laid(5, at{3: 5, 106: 1000431, 138: 1000101, 139: 5})
	for place := 107; place < 138; place++ {
		image[place] = 0
		if place%3 == 0 {
			image[place] = 5
		}
	}
	heap := opened(t, image)
	for _, handle := range numbers {
		if handle != 1 && handle != 5 {
			want(t, "P7: Free of none", heap.Free(handle), api.ErrNone)
		}
	}
	want(t, "P7: Free of what all hold", heap.Free(5), api.ErrHeld)
	want(t, "P7: Free(1)", heap.Free(1), api.OK)
	want(t, "P7: Free(1) again", heap.Free(1), api.ErrNone)
	want(t, "P7: Free of what a root and it hold", heap.Free(5), api.ErrHeld)
	want(t, "P8: Commit", heap.Commit(), api.OK)
	changed := slices.Clone(image)
	changed[106], changed[114], changed[122], changed[130] = 0, 0, 0, 0
	want(t, "P7: the blocks", heap.Image()[106:], changed[106:])
	heap.SetRoot(0, 0)
	want(t, "P7: Free of what holds itself", heap.Free(5), api.ErrHeld)
	heap.Write(5, 0, 0)
	want(t, "P7: Free(5)", heap.Free(5), api.OK)
	want(t, "P7: Objects", len(heap.Objects()), 0)
	want(t, "P7: Alloc(4, 0)", pair(heap.Alloc(4, 0)), pair(1, api.OK))
}

func TestFreeOfWhatIsHeld(t *testing.T) {
	for place := 3; place < 7; place++ {
		want(t, "P7: Free, held by a root", opened(t, laid(2, at{place: 2, 114: one})).Free(2), api.ErrHeld)
	}
	for i := range 15 {
		held := at{106: 1000215, 107 + i: 3, 122: one}
		want(t, "P7: Free, held by what is not reached", opened(t, laid(3, held)).Free(3), api.ErrHeld)
		held[106] = uint64(1000200 + i)
		want(t, "P7: Free, not held by data", opened(t, laid(3, held)).Free(3), api.OK)
	}
	// Nothing holds 1, though a free block and the log's rest have its number.
	want(t, "P7: Free, not held", opened(t, laid(3, at{106: one, 115: 1, 10: 1, 2: 1})).Free(1), api.OK)
}

func TestReadAndWrite(t *testing.T) {
	image := laid(5, at{106: 1000102, 122: 1000300})
	spans := map[int]int{1: 1, 3: 3}
	for _, handle := range numbers {
		for _, i := range numbers {
			heap := opened(t, image)
			span, ok := spans[handle]
			e := api.OK
			switch {
			case !ok:
				e = api.ErrNone
			case i < 0 || i >= 8*span-1:
				e = api.ErrArg
			}
			want(t, "P7: Read", pair(heap.Read(handle, i)), pair(uint64(0), e))
			want(t, "P7: Write", heap.Write(handle, i, 3), e)
			if e == api.OK {
				want(t, "P7: Read of what was written", pair(heap.Read(handle, i)), pair(uint64(3), e))
			}
			if e != api.OK || i > 1 {
				want(t, "P7: Write of what is no handle", heap.Write(handle, i, full), e)
			}
			heap.Rollback()
			want(t, "P8: Objects behind Rollback", state(heap), state(opened(t, image)))
		}
	}
}

func TestWritePointers(t *testing.T) {
	heap := opened(t, laid(5, at{106: 1000102, 122: two}))
	for _, value := range []uint64{2, 4, 5, 6, 33, 1<<32 + 1, 1 << 63, 1<<63 + 1, full} {
		for i := range 2 {
			want(t, "P7: Write of a pointer that holds none", heap.Write(1, i, value), api.ErrPointer)
			want(t, "P1: the pointer behind an error", pair(heap.Read(1, i)), pair(uint64(0), api.OK))
		}
		want(t, "P7: Write of data", heap.Write(1, 2, value), api.OK)
		want(t, "P7: Read of data", pair(heap.Read(1, 2)), pair(value, api.OK))
	}
	for _, value := range []uint64{1, 3, 0} {
		want(t, "P7: Write of a pointer", heap.Write(1, 1, value), api.OK)
		want(t, "P7: Read of a pointer", pair(heap.Read(1, 1)), pair(value, api.OK))
	}
	// A handle is one as soon as its object is there, and no longer.
	heap.Alloc(1, 0)
	want(t, "P7: Write of a new handle", heap.Write(1, 0, 2), api.OK)
	heap.Write(1, 0, 0)
	heap.Free(2)
	want(t, "P7: Write of one that is gone", heap.Write(1, 0, 2), api.ErrPointer)
}

func TestRoots(t *testing.T) {
	heap := opened(t, laid(5, at{4: 3, 106: one, 122: two}))
	for _, i := range numbers {
		ok := i >= 0 && i < 4
		for _, handle := range numbers {
			e := api.OK
			switch {
			case !ok:
				e = api.ErrArg
			case handle != 0 && handle != 1 && handle != 3:
				e = api.ErrNone
			}
			was, _ := heap.Root(i)
			want(t, "P7: SetRoot", heap.SetRoot(i, handle), e)
			switch {
			case e == api.ErrArg:
				want(t, "P7: Root", pair(heap.Root(i)), pair(0, e))
			case e == api.ErrNone:
				want(t, "P1: Root behind an error", pair(heap.Root(i)), pair(was, api.OK))
			default:
				want(t, "P7: Root", pair(heap.Root(i)), pair(handle, e))
			}
		}
	}
	heap.Rollback()
	for i, handle := range []int{0, 3, 0, 0} {
		want(t, "P8: Root behind Rollback", pair(heap.Root(i)), pair(handle, api.OK))
	}
}

func TestAnswersAreNewMemory(t *testing.T) {
	room := append(laid(5, at{3: 1, 106: 1000101, 107: 3, 122: two, 125: 9}), 7, 7, 7)
	image := room[:146]
	heap := opened(t, image)
	other := opened(t, image)
	before := state(heap)
	for place := range image {
		image[place] = full
	}
	want(t, "P2: Objects when the list handed in is another one", state(heap), before)
	spoil := func() {
		objects := heap.Objects()
		for _, object := range objects {
			list := object.Words[:cap(object.Words)]
			for i := range list {
				list[i] = 4444
			}
		}
		for _, object := range objects {
			if slices.Contains(object.Words, 1111) {
				t.Error("P2: two lists of one answer share memory")
			}
			_ = append(object.Words, 1111)
		}
		objects = objects[:cap(objects)]
		clear(objects)
		words := heap.Image()
		clear(words[:cap(words)])
	}
	spoil()
	want(t, "P2: Objects when an answer was written into", state(heap), before)
	heap.Write(1, 3, 5)
	heap.Commit()
	stores := heap.Stores()
	spare := stores[:cap(stores)]
	copied := slices.Clone(stores)
	heap.Write(1, 3, 6)
	heap.Commit()
	want(t, "P2: Stores when more were made", stores, copied)
	for i := range spare {
		spare[i] = put(1, 1)
	}
	spoil()
	want(t, "P2: Stores when those told were written into", len(heap.Stores()), 3*3+7)
	want(t, "P2: the other heap", state(other), before)
	want(t, "P2: the spare room", room[146:], []uint64{7, 7, 7})
}

func TestCommitOfNoChange(t *testing.T) {
	image := laid(4, at{3: 1, 106: 1000101, 107: 1, 108: 9})
	heap := opened(t, image)
	heap.Alloc(2, 3)
	heap.SetRoot(2, 2)
	heap.SetRoot(0, 0)
	heap.Write(1, 1, 7)
	heap.SetRoot(2, 0)
	heap.Free(2)
	heap.SetRoot(0, 1)
	heap.Write(1, 1, 9)
	want(t, "P8: Commit of what is as it was", heap.Commit(), api.OK)
	want(t, "P8: Stores", len(heap.Stores()), 0)
	want(t, "P8: Image", heap.Image(), image)
	// What was in a free block is a change, though the object is gone again.
	heap = opened(t, laid(1, at{109: 5}))
	heap.Alloc(1, 0)
	heap.Free(1)
	want(t, "P8: Commit", heap.Commit(), api.OK)
	want(t, "P8: Stores", len(heap.Stores()), 3*3+7)
	want(t, "P8: Image", heap.Image()[2], uint64(1))
}

func TestCommitsWrapRound(t *testing.T) {
	heap := opened(t, laid(1, at{2: full, 7: 0xb35b952edc5a6829}))
	heap.Alloc(1, 0)
	want(t, "P8: Commit", heap.Commit(), api.OK)
	want(t, "P8: Stores", heap.Stores(), []api.Store{
		put(10, 2), put(11, 0), put(12, 7), put(13, 0x5a129ec65c23fbdb), put(14, 106), put(15, one),
		put(9, 0x3979e02ef00ec9c1), flush, put(8, 3), flush,
		put(2, 0), put(7, 0x5a129ec65c23fbdb), put(106, one), flush, put(8, 0), flush,
	})
}

func TestCommitOfTooMuch(t *testing.T) {
	image := laid(8, at{3: 1, 106: 1000400, 138: 1000400})
	heap := opened(t, image)
	write := func(count int, value uint64) {
		for k := range count {
			heap.Write(1+k/31*4, k%31, value)
		}
	}
	write(62, 5)
	write(47, 6)
	for k := 47; k < 62; k++ {
		heap.Write(5, k-31, 0)
	}
	before := state(heap)
	for range 3 {
		want(t, "P8: Commit of 49", heap.Commit(), api.ErrLog)
		want(t, "P8: Stores", len(heap.Stores()), 0)
		want(t, "P8: Image", heap.Image(), image)
		want(t, "P8: Objects", state(heap), before)
	}
	want(t, "P8: a root more", heap.SetRoot(1, 5), api.OK)
	want(t, "P8: Commit of 50", heap.Commit(), api.ErrLog)
	heap.SetRoot(1, 0)
	heap.Write(5, 15, 0)
	want(t, "P8: Commit of 48", heap.Commit(), api.OK)
	stores := heap.Stores()
	want(t, "P8: Stores of 48", len(stores), 3*48+7)
	want(t, "P8: the number of records", stores[98], put(8, 48))
	want(t, "P8: Image", heap.Image(), over(image, stores))
	want(t, "P8: one commit", heap.Image()[2], uint64(1))
	heap.Write(1, 0, 8)
	want(t, "P8: Commit of three", heap.Commit(), api.OK)
	want(t, "P8: Stores of three", len(heap.Stores()), 3*3+7)

	write(62, 9)
	want(t, "P8: Commit of too much", heap.Commit(), api.ErrLog)
	heap.Rollback()
	want(t, "P8: Commit behind Rollback", heap.Commit(), api.OK)
	want(t, "P8: Stores behind Rollback", len(heap.Stores()), 0)
	want(t, "P8: Read behind Rollback", pair(heap.Read(1, 0)), pair(uint64(8), api.OK))
}

func TestRollback(t *testing.T) {
	image := laid(6, at{3: 1, 106: 1000101, 107: 3, 122: 1000200, 125: 9})
	heap := opened(t, image)
	heap.Rollback()
	before := state(heap)
	heap.Alloc(2, 2)
	heap.Write(5, 0, 3)
	heap.SetRoot(3, 5)
	heap.Write(1, 0, 0)
	heap.Write(3, 1, 4)
	heap.Write(5, 0, 0)
	want(t, "P7: Free(3)", heap.Free(3), api.OK)
	heap.Rollback()
	want(t, "P8: Objects and roots behind Rollback", state(heap), before)
	want(t, "P8: Image behind Rollback", heap.Image(), image)
	heap.Alloc(1, 0)
	heap.Commit()
	heap.Write(2, 0, 8)
	heap.Rollback()
	want(t, "P8: Rollback goes back to the last Commit", len(heap.Objects()), 3)
	want(t, "P8: the word", pair(heap.Read(2, 0)), pair(uint64(0), api.OK))
}

func TestStoresSinceLastAsked(t *testing.T) {
	image := withLog(laid(2, at{106: one}), 1, 107, 6)
	heap := opened(t, image)
	heap.Write(1, 0, 7)
	heap.Commit()
	heap.Write(1, 0, 8)
	heap.Commit()
	all := heap.Stores()
	want(t, "P8: Stores of Open and two Commits", len(all), 4+16+16)
	want(t, "P8: what Open put", all[:4], []api.Store{put(107, 6), flush, put(8, 0), flush})
	want(t, "P8: Image", heap.Image(), over(image, all))
	heap.Write(1, 0, 9)
	heap.Commit()
	next := heap.Stores()
	want(t, "P8: Stores since", len(next), 16)
	want(t, "P8: the value", next[5], put(15, 9))
	want(t, "P8: Image", heap.Image(), over(over(image, all), next))
}
