package sample

import (
	"math"
	"slices"
	"strings"

	"shelfmark/api"
)

// Records are records that may be, of all lengths.
func Records() []api.Record {
	var l []api.Record
	all := Vals()
	for i, v := range all {
		w, x := all[(i*5+3)%len(all)], all[(i*7+2)%len(all)]
		l = append(l, api.Record{v}, api.Record{v, w}, api.Record{w, Null(), v}, api.Record{v, w, x}, api.Record{x, v, Null(), w}, api.Record{w, x, v, v})
	}
	return append(l, api.Record{Null(), Null(), Null(), Null()})
}

// LargeRecords are such that have too many fields, of which some may not be.
func LargeRecords() []api.Record {
	bad := BadVals()[0]
	return []api.Record{
		slices.Repeat([]api.Val{Null()}, api.MaxFields+1),
		slices.Repeat([]api.Val{bad}, api.MaxFields+1),
		{Int(1), Int(2), Int(3), Int(4), bad},
		slices.Repeat([]api.Val{Text("a")}, 100000),
	}
}

// BadRecords are such that have fields that may not be, but not too many.
func BadRecords() []api.Record {
	var l []api.Record
	for _, v := range BadVals() {
		l = append(l, api.Record{v}, api.Record{v, Null()}, api.Record{Int(1), v}, api.Record{Text("a"), Null(), Int(3), v}, api.Record{v, v, v, v})
	}
	return l
}

// Keys are keys of records, rising.
func Keys() []string {
	return []string{"\x00", "\x00\x00", "\x00\xff", "\x01", "0123456789abcdef", "a", "a\x00", "k", "ä", strings.Repeat("\xff", api.MaxKey)}
}

// Edges are texts that keys in a space may be, and that ranges may begin and end with.
func Edges() []string {
	return []string{"", "\x00", "\x00\x00", "Z", "a", "a\x00", "a\x01", "aa", "ab", "b", "b\x00", "c", "z", "\x7f", "\x80", "ä", "\xff", "\xff\x00", "\xff\xff", strings.Repeat("\xff", 300)}
}

// BadKeys are texts that are no key of a record.
func BadKeys() []string {
	return []string{"", strings.Repeat("k", api.MaxKey+1), strings.Repeat("\x00", api.MaxKey+1), strings.Repeat("ä", api.MaxKey/2) + "k", strings.Repeat("k", 100000)}
}

// FieldLists are all lists of fields that an index may be of.
func FieldLists() [][]int {
	return [][]int{
		{0}, {1}, {2}, {3},
		{0, 1}, {0, 2}, {0, 3}, {1, 0}, {1, 2}, {1, 3}, {2, 0}, {2, 1}, {2, 3}, {3, 0}, {3, 1}, {3, 2},
	}
}

// BadIds are numbers that are no Id of an index.
func BadIds() []int {
	return []int{0, -1, -5, api.MaxIndexes + 1, 255, 256, 257, 1 << 16, 1<<16 + 1, 1<<32 + 1, math.MinInt, math.MinInt + 1, math.MaxInt}
}

// Entry is, as a text, that the record of a key shows an index something (chapter 4).
func Entry(id int, l []api.Val, key string) string {
	return "\x00" + string([]byte{byte(id)}) + RowKey(l) + "\x00" + key
}
