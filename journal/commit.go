package journal

import (
	"cairn/api"
	"cairn/layout"
	"cairn/words"
)

// Recover does what the log asks for, if it asks for something. Not ok, if it
// is a wrong log.
func Recover(told *words.Told) (ok bool) {
	records, ok := Asked(told)
	if len(records) > 0 {
		carryOut(told, records)
	}
	return ok
}

// Commit carries the changes through the log into the row below them, which is
// the one that is told. With an error nothing is done, and they stay.
func Commit(told *words.Told, changed *words.Changed) api.Errno {
	if len(changed.Places()) == 0 {
		return api.OK
	}
	records := toCommit(changed)
	if len(records) > api.Records {
		return api.ErrLog
	}
	enter(told, records)
	carryOut(told, records)
	changed.Drop()
	return api.OK
}

// toCommit is the records of the changes and of the head that a commit makes
// of them; in a copy, since the head must stay as it is if there are too many.
func toCommit(changed *words.Changed) []Record {
	next := changed.Copy()
	for place, word := range layout.HeadOf(changed).Next() {
		next.Put(place, word)
	}
	var records []Record
	for _, place := range next.Places() {
		records = append(records, Record{Place: place, Value: next.Read(place)})
	}
	return records
}

// enter writes the records into the log. Until its number is there the log is
// empty, so all else must be kept ahead of that.
func enter(told *words.Told, records []Record) {
	list := []uint64{uint64(len(records))}
	for _, record := range records {
		list = append(list, uint64(record.Place), record.Value)
	}
	for i, word := range list[1:] {
		told.Put(layout.RecordsPlace+i, word)
	}
	told.Put(layout.LogSumPlace, layout.Sum(list))
	told.Flush()
	told.Put(layout.LogPlace, list[0])
	told.Flush()
}

// carryOut does what the log asks for; only when that is kept may the log be
// emptied.
func carryOut(told *words.Told, records []Record) {
	Redo(told, records)
	told.Flush()
	told.Put(layout.LogPlace, 0)
	told.Flush()
}
