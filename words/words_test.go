package words

import (
	"slices"
	"testing"

	"cairn/api"
)

func TestKept(t *testing.T) {
	list := []uint64{4, 5, 6}
	var row Row = Kept(list)
	row.Put(1, 9)
	if row.Len() != 3 || row.Read(0) != 4 || row.Read(1) != 9 || row.Read(2) != 6 {
		t.Errorf("a row is %v", row)
	}
	if list[1] != 9 {
		t.Error("what was put is not kept at once")
	}
}

func TestKeptCopy(t *testing.T) {
	kept := Kept{1, 2, 3}[:2]
	other := kept.Copy()
	other[0] = 9
	_ = append(other, 8)
	if !slices.Equal(kept[:3], Kept{1, 2, 3}) || !slices.Equal(other, Kept{9, 2}) {
		t.Errorf("P2: a row and its copy are %v and %v", kept[:3], other)
	}
}

func TestTold(t *testing.T) {
	list := []uint64{4, 5, 6}
	told := NewTold(list)
	var row Row = told
	row.Put(1, 9)
	told.Flush()
	row.Put(1, 9)
	if row.Len() != 3 || row.Read(1) != 9 || list[1] != 5 {
		t.Errorf("P2: a row that is told is %v over %v", told.Kept, list)
	}
	put := api.Store{Kind: 1, At: 1, Value: 9}
	first := told.Tell()
	if !slices.Equal(first, []api.Store{put, {Kind: 2}, put}) {
		t.Errorf("P8: the stores are %v", first)
	}
	told.Flush()
	second := told.Tell()
	if len(second) != 1 || first[0] != put || len(told.Tell()) != 0 {
		t.Errorf("P8: the stores told later are %v", second)
	}
}

func TestChanged(t *testing.T) {
	below := Kept{4, 5, 6, 7}
	changed := NewChanged(below)
	var row Row = changed
	for _, place := range []int{3, 0, 2, 1} {
		row.Put(place, uint64(place))
	}
	row.Put(2, 0)
	row.Put(1, 5)
	if row.Len() != 4 || !slices.Equal(changed.Places(), []int{0, 2, 3}) {
		t.Errorf("P8: the places that are changed are %v", changed.Places())
	}
	for place, word := range []uint64{0, 5, 0, 3} {
		if row.Read(place) != word {
			t.Errorf("P7: place %d is %d, want %d", place, row.Read(place), word)
		}
	}
	if !slices.Equal(below, Kept{4, 5, 6, 7}) {
		t.Errorf("P8: the row below is %v", below)
	}
}

func TestChangedCopyAndDrop(t *testing.T) {
	changed := NewChanged(Kept{4, 5, 6})
	changed.Put(1, 8)
	other := changed.Copy()
	other.Put(0, 1)
	changed.Put(2, 2)
	if !slices.Equal(changed.Places(), []int{1, 2}) || !slices.Equal(other.Places(), []int{0, 1}) {
		t.Errorf("P8: a row and its copy are changed at %v and %v", changed.Places(), other.Places())
	}
	changed.Drop()
	if len(changed.Places()) > 0 || changed.Read(1) != 5 || other.Read(1) != 8 {
		t.Error("P8: dropped changes are there, or those of a copy are not")
	}
	changed.Put(1, 7)
	if changed.Read(1) != 7 {
		t.Error("P8: behind a drop nothing can be changed")
	}
}
