// Package journal: the log of an image, and what it asks for.
package journal

import (
	"cairn/api"
	"cairn/layout"
	"cairn/words"
)

// Record is a value that is to be put at a place.
type Record struct {
	Place int
	Value uint64
}

// Asked tells the records that the log asks to be put: none, if it is empty.
// Not ok, if it is a wrong log.
func Asked(row words.Row) (records []Record, ok bool) {
	count := row.Read(layout.LogPlace)
	if count > api.Records {
		return nil, false
	}
	if count == 0 {
		return nil, true
	}
	if !summed(row, int(count)) {
		return nil, false
	}
	for i := range int(count) {
		place := row.Read(layout.RecordsPlace + 2*i)
		if !layout.Logged(place, row.Len()) {
			return nil, false
		}
		value := row.Read(layout.RecordsPlace + 2*i + 1)
		records = append(records, Record{Place: int(place), Value: value})
	}
	return records, true
}

// summed tells whether the sum of a log with so many records is right.
func summed(row words.Row, count int) bool {
	list := []uint64{row.Read(layout.LogPlace)}
	for i := range 2 * count {
		list = append(list, row.Read(layout.RecordsPlace+i))
	}
	return row.Read(layout.LogSumPlace) == layout.Sum(list)
}

// Redo puts the value of each record at its place, from the first to the last,
// since a later one may name a place again.
func Redo(row words.Row, records []Record) {
	for _, record := range records {
		row.Put(record.Place, record.Value)
	}
}
