package blocks

import (
	"slices"
	"testing"

	"cairn/words"
)

// row is one of n blocks with these words at these places.
func row(n int, at map[int]uint64) words.Kept {
	list := make(words.Kept, 106+8*n)
	for place, word := range at {
		list[place] = word
	}
	return list
}

func TestWalkTellsEachThingOnce(t *testing.T) {
	r := row(9, map[int]uint64{114: 1000215, 122: 7, 130: 5, 138: 1000100, 154: 1000431, 162: 1000303})
	var told []Thing
	Walk(r, func(thing Thing) { told = append(told, thing) })
	want := []Thing{
		{Free, 1, 1, 0}, {Object, 2, 2, 15}, {Wrong, 4, 1, 0}, {Object, 5, 1, 0}, {Free, 6, 1, 0},
		{Wrong, 7, 1, 0}, {Wrong, 8, 1, 0}, {Free, 9, 1, 0},
	}
	if !slices.Equal(told, want) {
		t.Errorf("P4: a walk tells %v, want %v", told, want)
	}
}

func TestWalkGoesOnWhereItWasGoing(t *testing.T) {
	r := row(4, map[int]uint64{106: 1000200, 114: 5, 122: 5, 130: 1000100})
	var handles []int
	Walk(r, func(thing Thing) {
		handles = append(handles, thing.Handle)
		thing.Clear(r)
	})
	if !slices.Equal(handles, []int{1, 3, 4}) {
		t.Errorf("P5: a walk that clears things finds %v", handles)
	}
	if r[106] != 0 || r[114] != 0 || r[122] != 0 || r[130] != 0 {
		t.Error("P5: the first word of a block is not cleared")
	}
}

func TestClearLeavesOtherWords(t *testing.T) {
	r := make(words.Kept, 138)
	for i := range r {
		r[i] = 9
	}
	Thing{Object, 2, 2, 0}.Clear(r)
	for place, word := range r {
		if cleared := place == 114 || place == 122; (word == 0) != cleared {
			t.Errorf("P5: place %d is %d", place, word)
		}
	}
}

func TestHeld(t *testing.T) {
	objects := Objects{{Object, 2, 2, 1}, {Object, 5, 1, 0}, {Object, 32, 1, 7}}
	for word, want := range map[uint64]bool{0: false, 1: false, 2: true, 3: false, 5: true, 31: false, 32: true, 33: false, 1<<32 + 2: false, 1<<64 - 1: false} {
		thing, ok := objects.Held(word)
		if ok != want || ok && uint64(thing.Handle) != word || !ok && thing != (Thing{}) {
			t.Errorf("P4: Held(%d) = %v, %t", word, thing, ok)
		}
		if objects.Dangling(word) != (word != 0 && !want) {
			t.Errorf("P4: Dangling(%d) is wrong", word)
		}
	}
}

func TestReached(t *testing.T) {
	// 1 holds 2 and itself, 2 holds 4; 3 holds 1; 5 is held by data of 4.
	r := row(5, map[int]uint64{6: 1, 106: 1000102, 107: 2, 108: 1, 114: 1000101, 115: 4, 122: 1000101, 123: 1, 130: 1000100, 131: 5, 138: 1000100})
	var objects Objects
	Walk(r, func(thing Thing) { objects = append(objects, thing) })
	if marks := objects.Reached(r); marks != (Marks{1: true, 2: true, 4: true}) {
		t.Errorf("P4: reached are %v", marks)
	}
}

func TestSurvey(t *testing.T) {
	objects, wrong := Survey(row(5, map[int]uint64{106: 3, 122: 1000201, 130: 4, 138: 5}))
	if !slices.Equal(objects, Objects{{Object, 3, 2, 1}}) || !slices.Equal(wrong, []Thing{{Wrong, 1, 1, 0}, {Wrong, 5, 1, 0}}) {
		t.Errorf("P4: a survey finds %v and %v", objects, wrong)
	}
}

func TestRoom(t *testing.T) {
	// Free are 2, 4 to 5, 8 to 10.
	r := row(10, map[int]uint64{106: 1000100, 122: 1000100, 146: 1000200})
	for span, want := range map[int]int{1: 2, 2: 4, 3: 8, 4: 0} {
		if block, ok := Room(r, span); block != want || ok != (want > 0) {
			t.Errorf("P7: Room of %d = %d, %t", span, block, ok)
		}
	}
}

func TestMakeAndWords(t *testing.T) {
	r := make(words.Kept, 138)
	for i := range r {
		r[i] = 9
	}
	object := Thing{Object, 2, 2, 3}
	object.Make(r)
	for place, word := range r {
		want := uint64(9)
		if place == 114 {
			want = 1000203
		} else if place > 114 && place < 130 {
			want = 0
		}
		if word != want {
			t.Errorf("P7: place %d is %d, want %d", place, word, want)
		}
	}
	r[115], r[129] = 5, 6
	if list := object.Words(r); len(list) != 15 || list[0] != 5 || list[14] != 6 {
		t.Errorf("P7: the words are %v", list)
	}
	for i := -3; i < 40; i++ {
		if want := i >= 0 && i < 15; object.Has(i) != want {
			t.Errorf("P7: Has(%d) = %t", i, !want)
		}
	}
}

func TestHolds(t *testing.T) {
	r := row(3, map[int]uint64{2: 7, 3: 4, 6: 5, 7: 8, 106: 1000202, 107: 6, 108: 1, 109: 9})
	objects, _ := Survey(r)
	for word, want := range map[uint64]bool{1: true, 4: true, 5: true, 6: true, 7: false, 8: false, 9: false, 1000202: false} {
		if objects.Holds(r, word) != want {
			t.Errorf("P7: Holds(%d) = %t", word, !want)
		}
	}
}
