package journal

import (
	"slices"
	"testing"

	"cairn/words"
)

// literal is an image with a log of two records; its sum was worked out apart
// from the program.
func literal() words.Kept {
	row := make(words.Kept, 114)
	copy(row[8:], []uint64{2, 0x758da55ffe911dd, 3, 1, 106, 1000100})
	return row
}

func TestAsked(t *testing.T) {
	records, ok := Asked(literal())
	if want := []Record{{3, 1}, {106, 1000100}}; !ok || !slices.Equal(records, want) {
		t.Errorf("P6: Asked = %v, %t", records, ok)
	}
	empty := literal()
	empty[8] = 0
	if records, ok := Asked(empty); !ok || len(records) > 0 {
		t.Errorf("P6: of an empty log: %v, %t", records, ok)
	}
}

func TestAskedOfWrongLogs(t *testing.T) {
	for place := 8; place < 14; place++ {
		row := literal()
		row[place]++
		if records, ok := Asked(row); ok || records != nil {
			t.Errorf("P6: a log with another word at %d: %v, %t", place, records, ok)
		}
	}
	for _, count := range []uint64{49, 1 << 32, 1 << 63, 1<<64 - 1} {
		row := literal()
		row[8] = count
		if records, ok := Asked(row); ok || records != nil {
			t.Errorf("P6: a log with %d records: %v, %t", count, records, ok)
		}
	}
}

func TestRedoInOrder(t *testing.T) {
	row := make(words.Kept, 114)
	Redo(row, []Record{{3, 1}, {106, 7}, {3, 2}, {113, 9}})
	want := make(words.Kept, 114)
	want[3], want[106], want[113] = 2, 7, 9
	if !slices.Equal(row, want) {
		t.Errorf("P6: what is put is %v", row)
	}
}
