package words

import "testing"

func TestKept(t *testing.T) {
	list := []uint64{4, 5, 6}
	var row Row = Kept(list)
	row.Put(1, 9)
	if row.Len() != 3 || row.Read(0) != 4 || row.Read(1) != 9 || row.Read(2) != 6 {
		t.Errorf("a row is %v", row)
	}
	if list[1] != 9 {
		t.Error("what was put is not kept at once")
	}
}
