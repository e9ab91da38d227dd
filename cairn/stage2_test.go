package cairn_test

import (
	"math/rand"
	"slices"
	"testing"

	"cairn/api"
	"cairn/cairn"
)

// at tells words by their places.
type at map[int]uint64

const (
	one = 1000100 // the header of an object of one block, without pointers
	two = 1000200
)

// laid is an image of n blocks with these words; the head's sum is made right,
// unless it is one of them.
func laid(n int, words at) []uint64 {
	image, _ := cairn.Format(n)
	for place, word := range words {
		image[place] = word
	}
	if _, given := words[7]; !given {
		image[7] = cairn.Sum(image[:7])
	}
	return image
}

// withLog is the image with a log of these words of records, its sum right.
func withLog(image []uint64, count uint64, records ...uint64) []uint64 {
	image = slices.Clone(image)
	image[8] = count
	copy(image[10:106], records)
	image[9] = cairn.Sum(append([]uint64{count}, records...))
	return image
}

func wantCheck(t *testing.T, name string, image []uint64, e api.Errno, place int) {
	t.Helper()
	if gotE, gotPlace := cairn.Check(image); gotE != e || gotPlace != place {
		t.Errorf("P4: %s: Check = %d, %d, want %d, %d", name, gotE, gotPlace, e, place)
	}
}

func TestCheckShape(t *testing.T) {
	for length := range 500 {
		words := make([]uint64, length)
		if length > 1 {
			words[0], words[1] = api.Magic, 1
		}
		shaped := length >= 114 && length <= 362 && (length-106)%8 == 0
		if e, place := cairn.Check(words); (e == api.ErrShape) == shaped || !shaped && place != 0 {
			t.Errorf("P4: Check of %d words = %d, %d", length, e, place)
		}
		if r, e := cairn.Repair(words); (e == api.ErrShape) == shaped || !shaped && r != nil {
			t.Errorf("P5: Repair of %d words = %d words, %d", length, len(r), e)
		}
	}
	wantCheck(t, "very many words", make([]uint64, 1<<20+106), api.ErrShape, 0)
}

func TestCheckHeadLiteral(t *testing.T) {
	image := make([]uint64, 130)
	copy(image, []uint64{20261114, 3, 9, 1, 0, 3, 0, 0xb48bc745ae844d29})
	image[106], image[122] = one, one
	wantCheck(t, "a sound image", image, api.OK, 0)
	image[7] ^= 1 << 63
	wantCheck(t, "a bit of the sum", image, api.ErrSuper, 7)
}

func TestCheckEveryBitOfTheHead(t *testing.T) {
	sound := laid(3, at{2: 5, 3: 1, 6: 3, 106: one, 122: one})
	wantCheck(t, "no bit", sound, api.OK, 0)
	for place := range 8 {
		for bit := range 64 {
			image := slices.Clone(sound)
			image[place] ^= 1 << bit
			want := 7
			if place < 2 {
				want = place
			}
			wantCheck(t, "a bit of the head", image, api.ErrSuper, want)
			// With its sum right the head is wrong in its first words only.
			if place < 2 {
				image[7] = cairn.Sum(image[:7])
				wantCheck(t, "a bit of the head, the sum right", image, api.ErrSuper, place)
			}
		}
	}
	for n := 1; n <= 32; n++ {
		for second := range 40 {
			e, place := api.OK, 0
			if second != n {
				e, place = api.ErrSuper, 1
			}
			wantCheck(t, "a number of blocks", laid(n, at{1: uint64(second)}), e, place)
		}
	}
}

func TestCheckLog(t *testing.T) {
	for _, count := range []uint64{1, 48, 49, 1 << 32, 1 << 63, full} {
		wantCheck(t, "a log", laid(2, at{8: count}), api.ErrLog, 8)
	}
	wantCheck(t, "a log that asks", withLog(laid(2, nil), 2, 3, 1, 106, one), api.ErrLog, 8)
	rest := laid(1, nil)
	for place := 9; place < 106; place++ {
		rest[place] = full
	}
	wantCheck(t, "what an empty log has left", rest, api.OK, 0)
}

// The faults stand in the reverse of the order in which they are told, so that
// each one is told only when all ahead of it are mended.
func TestCheckOrder(t *testing.T) {
	image := laid(4, at{0: 1, 1: 9, 8: 1, 4: 3, 106: 1000101, 107: 4, 114: 1000101, 115: 114, 130: 1, 7: 3})
	steps := []struct {
		place int
		word  uint64
		e     api.Errno
		told  int
	}{
		{0, api.Magic, api.ErrSuper, 0},
		{1, 4, api.ErrSuper, 1},
		{7, cairn.Sum([]uint64{api.Magic, 4, 0, 0, 3, 0, 0}), api.ErrSuper, 7},
		{8, 0, api.ErrLog, 8},
		{130, 0, api.ErrHeader, 130},
		{122, one, api.ErrRoot, 4},
		{107, 2, api.ErrPointer, 107},
		{115, 1, api.ErrPointer, 115},
		{107, 0, api.ErrLeak, 106},
	}
	for _, s := range steps {
		wantCheck(t, "faults from behind", image, s.e, s.told)
		image[s.place] = s.word
	}
	image[5], image[7] = 2, cairn.Sum([]uint64{api.Magic, 4, 0, 0, 3, 2, 0})
	wantCheck(t, "no fault left", image, api.OK, 0)
}

func TestCheckEveryHeader(t *testing.T) {
	for block := range 5 {
		for span := range 8 {
			for pointers := range 100 {
				header := uint64(1000000 + 100*span + pointers)
				place := 106 + 8*block
				ok := span >= 1 && span <= 4 && pointers <= 8*span-1 && block+span <= 5
				e, told := api.ErrHeader, place
				if ok {
					e, told = api.ErrLeak, place
				}
				wantCheck(t, "a header", laid(5, at{place: header}), e, told)
				// The same in its low bits only.
				for _, far := range []uint64{1 << 32, 1 << 62, 1 << 63} {
					wantCheck(t, "a far header", laid(5, at{place: header + far}), api.ErrHeader, place)
				}
			}
		}
	}
	for _, wrong := range []uint64{1, 5, 99, 100, 101, 999999, 1000000, 1000099, 1000500, 2000100, full, 1 << 63} {
		wantCheck(t, "no header", laid(2, at{114: wrong}), api.ErrHeader, 114)
	}
}

func TestCheckWalksOverObjects(t *testing.T) {
	// Within an object a block may begin with anything, and nothing in it is a handle.
	wantCheck(t, "inside an object", laid(4, at{3: 1, 106: 1000300, 114: 5, 122: one, 129: full}), api.OK, 0)
	wantCheck(t, "behind an object", laid(4, at{3: 1, 106: 1000300, 130: 5}), api.ErrHeader, 130)
	wantCheck(t, "a block inside", laid(4, at{3: 2, 106: 1000300, 114: one}), api.ErrRoot, 3)
	wantCheck(t, "a free block", laid(4, at{6: 3, 107: 5, 113: full, 122: two}), api.OK, 0)
	wantCheck(t, "the first of two", laid(4, at{106: 5, 114: 6}), api.ErrHeader, 106)
}

func TestCheckRoots(t *testing.T) {
	for place := 3; place < 7; place++ {
		for _, word := range []uint64{1, 2, 4, 5, 33, 1<<32 + 3, 1 << 63, full} {
			wantCheck(t, "a root", laid(4, at{place: word, 122: two}), api.ErrRoot, place)
		}
		wantCheck(t, "a root", laid(4, at{place: 3, 122: two}), api.OK, 0)
	}
	wantCheck(t, "the first of two roots", laid(4, at{6: 9, 4: 9}), api.ErrRoot, 4)
}

func TestCheckPointers(t *testing.T) {
	// All 31 words of the widest object are pointers: the last is one too.
	for place := 107; place < 138; place++ {
		wantCheck(t, "a pointer", laid(4, at{3: 1, 106: 1000431, place: 2}), api.ErrPointer, place)
		wantCheck(t, "a pointer to itself", laid(4, at{3: 1, 106: 1000431, place: 1}), api.OK, 0)
		wantCheck(t, "data", laid(4, at{3: 1, 106: 1000400, place: 2}), api.OK, 0)
	}
	for _, word := range []uint64{2, 3, 33, 1<<32 + 1, 1 << 63, full} {
		wantCheck(t, "a pointer", laid(2, at{3: 1, 106: 1000101, 107: word}), api.ErrPointer, 107)
	}
	wantCheck(t, "the word behind the pointers", laid(2, at{3: 1, 106: 1000101, 107: 1, 108: 9}), api.OK, 0)
	wantCheck(t, "of an object that is not reached", laid(2, at{106: 1000101, 107: 2}), api.ErrPointer, 107)
}

func TestCheckReached(t *testing.T) {
	// A ring of all blocks, then the same with one link cut.
	ring := at{6: 32}
	for block := range 32 {
		ring[106+8*block] = 1000103
		ring[109+8*block] = uint64(1 + (block+31)%32)
	}
	wantCheck(t, "a ring", laid(32, ring), api.OK, 0)
	ring[109+8*9] = 0
	wantCheck(t, "a ring that is cut", laid(32, ring), api.ErrLeak, 106)
	ring[3] = 9
	wantCheck(t, "a ring with two roots", laid(32, ring), api.OK, 0)
	wantCheck(t, "held by itself alone", laid(2, at{114: 1000101, 115: 2}), api.ErrLeak, 114)
	wantCheck(t, "held by what is not reached", laid(3, at{114: 1000101, 115: 1, 106: one, 3: 3, 122: one}), api.ErrLeak, 106)
	wantCheck(t, "held by data", laid(3, at{3: 1, 106: 1000100, 107: 2, 114: one}), api.ErrLeak, 114)
}

func TestRepair(t *testing.T) {
	for name, c := range map[string]struct {
		image []uint64
		want  at // the words that become others, but the head's sum
	}{
		"nothing wrong":               {laid(2, at{2: 8, 3: 1, 106: 1000101, 107: 1, 108: full, 9: 4, 105: 5}), nil},
		"the head's sum":              {laid(2, at{7: 8}), nil},
		"a log that is wrong":         {laid(2, at{8: full, 9: 3, 10: 4}), at{8: 0}},
		"a wrong header":              {laid(2, at{106: 5, 107: 6}), at{106: 0}},
		"an object too long":          {laid(3, at{3: 3, 114: 1000300, 122: one}), at{114: 0}},
		"one at the end":              {laid(3, at{122: two}), at{122: 0}},
		"wrong headers in a row":      {laid(4, at{3: 4, 106: 1, 114: 2, 122: 3, 130: one}), at{106: 0, 114: 0, 122: 0}},
		"inside an object":            {laid(3, at{3: 1, 106: two, 114: 5}), nil},
		"roots":                       {laid(3, at{3: 2, 4: 9, 5: 1, 6: full, 106: two, 114: one}), at{3: 0, 4: 0, 6: 0}},
		"a root at a wrong header":    {laid(3, at{3: 2, 114: 7}), at{3: 0, 114: 0}},
		"pointers":                    {laid(3, at{4: 1, 106: 1000104, 107: 2, 108: 3, 109: 4, 110: full, 111: 9, 114: 1000101, 115: 3, 122: 8}), at{108: 0, 109: 0, 110: 0, 115: 0, 122: 0}},
		"a pointer of what is leaked": {laid(3, at{106: 1000102, 107: 9, 108: 2, 114: 1000101, 115: 1}), at{106: 0, 114: 0}},
		"each block of a leak":        {laid(5, at{3: 5, 106: 1000431, 107: 1, 114: 6, 122: one, 130: full, 131: 7, 138: one}), at{106: 0, 114: 0, 122: 0, 130: 0}},
		"a root away, all leaked":     {laid(3, at{3: 7, 106: 1000101, 107: 2, 114: one}), at{3: 0, 106: 0, 114: 0}},
	} {
		wantRepair(t, name, c.image, c.want)
	}
}

// wantRepair asks that Repair changes just these words and the head's sum, and
// that it writes nowhere else.
func wantRepair(t *testing.T, name string, image []uint64, changed at) {
	t.Helper()
	before := append(slices.Clone(image), 1, 2, 3)
	room := slices.Clone(before)
	image = room[:len(image)]
	want := slices.Clone(image)
	for place, word := range changed {
		want[place] = word
	}
	want[7] = cairn.Sum(want[:7])
	mended, e := cairn.Repair(image)
	if e != api.OK || !slices.Equal(mended, want) {
		t.Errorf("P5: %s: Repair = %d, %d words", name, e, len(mended))
		for place := range mended {
			if mended[place] != want[place] {
				t.Errorf("P5: %s: place %d is %d, want %d", name, place, mended[place], want[place])
			}
		}
		return
	}
	wantCheck(t, name, mended, api.OK, 0)
	again, e := cairn.Repair(mended)
	if e != api.OK || !slices.Equal(again, mended) {
		t.Errorf("P9: %s: Repair of what is mended = %d, or other words", name, e)
	}
	for _, list := range [][]uint64{mended[:cap(mended)], again[:cap(again)]} {
		for i := range list {
			list[i] = full
		}
	}
	if !slices.Equal(room, before) {
		t.Errorf("P2: %s: the list that was handed in is another one", name)
	}
}

func TestRepairHeadLiteral(t *testing.T) {
	mended, e := cairn.Repair(laid(2, at{3: 1, 5: 2, 106: one}))
	if e != api.OK || mended[7] != 0xd1e33cd39c96e084 {
		t.Errorf("P5: the head's sum is %x, %d", mended[7], e)
	}
}

func TestRepairWrongHeads(t *testing.T) {
	for name, image := range map[string][]uint64{
		"Magic":                   laid(2, at{0: 5}),
		"Magic's low bits":        laid(2, at{0: 1<<32 + api.Magic}),
		"blocks":                  laid(2, at{1: 1}),
		"blocks, the sum too":     laid(2, at{1: 3, 7: 0}),
		"no head":                 make([]uint64, 362),
		"the log takes Magic":     withLog(laid(2, nil), 1, 0, 7),
		"the log takes blocks":    withLog(laid(2, nil), 1, 1, 3),
		"the log mends one alone": withLog(laid(2, at{0: 1, 1: 1}), 1, 1, 2),
	} {
		before := slices.Clone(image)
		if mended, e := cairn.Repair(image); e != api.ErrSuper || mended != nil {
			t.Errorf("P5: %s: Repair = %d words, %d", name, len(mended), e)
		}
		if !slices.Equal(image, before) {
			t.Errorf("P2: %s: the list that was handed in is another one", name)
		}
	}
}

func TestRepairDoesWhatTheLogAsks(t *testing.T) {
	literal := laid(2, at{8: 2, 9: 0x758da55ffe911dd, 10: 3, 11: 1, 12: 106, 13: one})
	wantRepair(t, "a log", literal, at{8: 0, 3: 1, 106: one})
	// Of the 48 values for place 107 the last one stays.
	var records []uint64
	for i := range uint64(48) {
		records = append(records, 107, i+1)
	}
	most := withLog(laid(1, at{3: 1, 106: one}), 48, records...)
	if most[9] != 0xaf553ce730bddd54 {
		t.Fatalf("P3: the sum of the longest log is %x", most[9])
	}
	wantRepair(t, "the longest log", most, at{8: 0, 107: 48})
	wantRepair(t, "head words", withLog(laid(2, at{0: 1, 1: 9, 7: 4}), 4, 0, api.Magic, 1, 2, 2, 77, 7, 5), at{8: 0, 0: api.Magic, 1: 2, 2: 77})
	wantRepair(t, "the last word", withLog(laid(2, nil), 1, 121, full), at{8: 0, 121: full})
	wantRepair(t, "then mended", withLog(laid(2, at{3: 1, 106: one}), 2, 3, 2, 114, 9), at{8: 0, 106: 0, 3: 0, 114: 0})
	wantRepair(t, "words behind the records", withLog(laid(2, at{12: 3, 13: 9}), 1, 121, 6), at{8: 0, 121: 6})
}

func TestRepairLeavesAWrongLogUndone(t *testing.T) {
	for _, place := range []uint64{8, 9, 10, 105, 122, 123, 361, 1 << 32, 1<<32 + 107, 1 << 63, full} {
		wantRepair(t, "a place", withLog(laid(2, nil), 2, 107, 5, place, 6), at{8: 0})
		wantRepair(t, "a first place", withLog(laid(2, nil), 2, place, 6, 107, 5), at{8: 0})
	}
	for _, place := range []uint64{8, 105, 362} {
		wantRepair(t, "a place of the widest", withLog(laid(32, nil), 2, 361, 5, place, 6), at{8: 0})
	}
	// Every bit of a log is in its sum, its number of records too.
	log := withLog(laid(2, nil), 2, 107, 5, 108, 6)
	for place := 8; place < 14; place++ {
		for bit := range 64 {
			wrong := slices.Clone(log)
			wrong[place] ^= 1 << bit
			wantRepair(t, "a bit", wrong, at{8: 0})
		}
	}
	var records []uint64
	for i := range uint64(48) {
		records = append(records, 107, i+1)
	}
	over := withLog(laid(4, nil), 49, records...)
	over[9] = 0x35621ab15bfea618
	wantRepair(t, "too many records", over, at{8: 0})
	// 49 records whose last one stands in the first block, the sum right.
	records = append(records, 108, 9)
	long := laid(4, at{106: 108, 107: 9})
	long[8] = 49
	copy(long[10:], records)
	long[9] = cairn.Sum(append([]uint64{49}, records...))
	wantRepair(t, "a log beyond its end", long, at{8: 0, 106: 0})
	wantRepair(t, "an empty log with records", withLog(laid(2, nil), 0, 107, 5), nil)
}

// survey is the document's rule told once more, in the plainest way: the
// objects by handle, the wrong headers, and which objects are reached.
func survey(image []uint64) (objects map[uint64][2]int, wrong []int, reached map[uint64]int) {
	n := (len(image) - 106) / 8
	objects, reached = map[uint64][2]int{}, map[uint64]int{}
	skip := 0
	for b := range n {
		header := image[106+8*b]
		if skip > 0 {
			skip--
			continue
		}
		found := header == 0
		for span := 1; span <= 4 && b+span <= n; span++ {
			for pointers := range 8 * span {
				if header == uint64(1000000+100*span+pointers) {
					objects[uint64(b+1)] = [2]int{span, pointers}
					skip, found = span-1, true
				}
			}
		}
		if !found {
			wrong = append(wrong, 106+8*b)
		}
	}
	hold := func(word uint64) {
		if _, ok := objects[word]; ok {
			reached[word] = 1
		}
	}
	for _, word := range image[3:7] {
		hold(word)
	}
	for range n {
		for handle := range uint64(33) {
			for i := range objects[handle][1] * reached[handle] {
				hold(image[99+8*int(handle)+i])
			}
		}
	}
	return objects, wrong, reached
}

// expected is what Check must answer of an image whose head is right and whose
// log is empty.
func expected(image []uint64) (api.Errno, int) {
	objects, wrong, reached := survey(image)
	if len(wrong) > 0 {
		return api.ErrHeader, wrong[0]
	}
	holdsNone := func(word uint64) bool {
		_, ok := objects[word]
		return word != 0 && !ok
	}
	for i, word := range image[3:7] {
		if holdsNone(word) {
			return api.ErrRoot, 3 + i
		}
	}
	for handle := range uint64(33) {
		for i := range objects[handle][1] {
			if place := 99 + 8*int(handle) + i; holdsNone(image[place]) {
				return api.ErrPointer, place
			}
		}
	}
	for handle := range uint64(33) {
		if _, ok := objects[handle]; ok && reached[handle] == 0 {
			return api.ErrLeak, 98 + 8*int(handle)
		}
	}
	return api.OK, 0
}

// strewn is an image with objects at random, and some words that may be wrong.
func strewn(r *rand.Rand) []uint64 {
	n := 1 + r.Intn(12)
	if r.Intn(8) == 0 {
		n = 32
	}
	image := laid(n, nil)
	for place := 106; place < len(image); place++ {
		image[place] = uint64(r.Intn(n + 2))
	}
	for b := range n {
		span := 1 + r.Intn(4)
		image[106+8*b] = uint64(1000000 + 100*span + r.Intn(4))
		switch r.Intn(12) {
		case 0, 1, 2:
			image[106+8*b] = 0
		case 3:
			image[106+8*b] += uint64(r.Intn(40))
		}
	}
	for place := 3; place < 7; place++ {
		image[place] = uint64(r.Intn(n + 1))
	}
	image[7] = cairn.Sum(image[:7])
	return image
}

// mendSome lets what holds nothing hold 0, so that the later errors come up too.
func mendSome(r *rand.Rand, image []uint64) {
	objects, wrong, _ := survey(image)
	mend := func(place int) {
		if _, ok := objects[image[place]]; !ok && r.Intn(60) > 0 {
			image[place] = 0
		}
	}
	for _, place := range wrong {
		image[place] = 0
	}
	for place := 3; place < 7; place++ {
		mend(place)
	}
	for handle := range uint64(33) {
		for i := range objects[handle][1] {
			mend(99 + 8*int(handle) + i)
		}
	}
	image[7] = cairn.Sum(image[:7])
}

func TestStrewnImages(t *testing.T) {
	r := rand.New(rand.NewSource(1))
	count := map[api.Errno]int{}
	for i := range 6000 {
		image := strewn(r)
		if i%2 == 0 {
			mendSome(r, image)
		}
		e, place := expected(image)
		count[e]++
		wantCheck(t, "a strewn image", image, e, place)
		objects, wrong, reached := survey(image)
		changed := at{}
		for _, place := range wrong {
			changed[place] = 0
		}
		mend := func(place int) {
			if _, ok := objects[image[place]]; !ok {
				changed[place] = 0
			}
		}
		for place := 3; place < 7; place++ {
			mend(place)
		}
		for handle, object := range objects {
			for i := range object[1] * reached[handle] {
				mend(99 + 8*int(handle) + i)
			}
			for b := range object[0] * (1 - reached[handle]) {
				changed[98+8*(int(handle)+b)] = 0
			}
		}
		wantRepair(t, "a strewn image", image, changed)
	}
	for _, e := range []api.Errno{api.OK, api.ErrHeader, api.ErrRoot, api.ErrPointer, api.ErrLeak} {
		if count[e] < 20 {
			t.Errorf("the strewn images have %d times the error %d", count[e], e)
		}
	}
}

func TestAnyWords(t *testing.T) {
	r := rand.New(rand.NewSource(2))
	for range 2000 {
		image := laid(1+r.Intn(32), nil)
		for range 1 + r.Intn(40) {
			image[8+r.Intn(len(image)-8)] = r.Uint64() >> r.Intn(64)
		}
		cairn.Check(image)
		mended, e := cairn.Repair(image)
		if e != api.OK {
			t.Fatalf("P5: Repair = %d", e)
		}
		wantCheck(t, "any words, mended", mended, api.OK, 0)
		if again, e := cairn.Repair(mended); e != api.OK || !slices.Equal(again, mended) {
			t.Fatalf("P9: Repair of what is mended = %d, or other words", e)
		}
	}
}
