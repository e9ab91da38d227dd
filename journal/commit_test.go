package journal

import (
	"slices"
	"testing"

	"cairn/api"
	"cairn/words"
)

func TestRecover(t *testing.T) {
	told := words.NewTold(literal())
	if !Recover(told) || told.Read(3) != 1 || told.Read(106) != 1000100 || told.Read(8) != 0 {
		t.Errorf("P6: what was asked for is not done: %v", told.Kept)
	}
	want := []api.Store{{Kind: 1, At: 3, Value: 1}, {Kind: 1, At: 106, Value: 1000100}, {Kind: 2}, {Kind: 1, At: 8}, {Kind: 2}}
	if stores := told.Tell(); !slices.Equal(stores, want) {
		t.Errorf("P6: the stores are %v", stores)
	}
	if !Recover(told) || len(told.Tell()) > 0 {
		t.Error("P6: an empty log asks for something")
	}
	wrong := literal()
	wrong[13]++
	told = words.NewTold(wrong)
	if Recover(told) || len(told.Tell()) > 0 || !slices.Equal(told.Kept, wrong) {
		t.Error("P6: a wrong log asks for something")
	}
}

func TestCommitLeavesTheChangesWithAnError(t *testing.T) {
	told := words.NewTold(make([]uint64, 362))
	changed := words.NewChanged(told)
	for i := range 47 {
		changed.Put(300-i, 5)
	}
	before := changed.Places()
	if e := Commit(told, changed); e != api.ErrLog || len(told.Tell()) > 0 || !slices.Equal(changed.Places(), before) {
		t.Errorf("P8: Commit of 49 records = %d, or something is done", e)
	}
	changed.Put(300, 0)
	if e := Commit(told, changed); e != api.OK || len(changed.Places()) > 0 || len(told.Tell()) != 151 {
		t.Errorf("P8: Commit of 48 records = %d, or its stores are others", e)
	}
	if e := Commit(told, changed); e != api.OK || len(told.Tell()) > 0 || told.Read(2) != 1 {
		t.Errorf("P8: Commit of nothing = %d, or it puts something", e)
	}
}
