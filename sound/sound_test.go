package sound

import (
	"testing"

	"cairn/api"
	"cairn/layout"
	"cairn/words"
)

// counted is a row that tells how often each place was put.
type counted struct {
	words.Kept
	puts map[int]int
}

func (c counted) Put(place int, value uint64) {
	c.puts[place]++
	c.Kept.Put(place, value)
}

func newRow(n int) counted {
	row := counted{make(words.Kept, layout.Length(n)), map[int]int{}}
	head := layout.NewHead(n)
	copy(row.Kept, head[:])
	return row
}

func TestCheckOnlyReads(t *testing.T) {
	row := newRow(3)
	row.Kept[106] = 5
	if e, place := Check(row); e != api.ErrHeader || place != 106 {
		t.Errorf("P4: Check = %d, %d", e, place)
	}
	if len(row.puts) > 0 {
		t.Errorf("P4: Check puts words at %v", row.puts)
	}
}

func TestRepairPutsThroughTheRow(t *testing.T) {
	row := newRow(3)
	row.Kept[3], row.Kept[106], row.Kept[114], row.Kept[122] = 1, 5, 1000200, 6
	if e := Repair(row); e != api.OK {
		t.Errorf("P5: Repair = %d", e)
	}
	for _, place := range []int{3, 7, 8, 106, 114, 122} {
		if row.puts[place] == 0 {
			t.Errorf("P5: place %d was not put", place)
		}
	}
	if e, place := Check(row); e != api.OK {
		t.Errorf("P5: Check of what is mended = %d, %d", e, place)
	}
}

func TestRepairOfAWrongHead(t *testing.T) {
	for _, place := range []int{0, 1} {
		row := newRow(3)
		row.Kept[place]++
		if e := Repair(row); e != api.ErrSuper {
			t.Errorf("P5: Repair = %d, though word %d is wrong", e, place)
		}
	}
	row := newRow(3)
	row.Kept[7]++
	if e := Repair(row); e != api.OK || layout.HeadOf(row) != layout.NewHead(3) {
		t.Errorf("P5: Repair = %d, the head %x", e, layout.HeadOf(row))
	}
}
