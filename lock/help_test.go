package lock_test

import (
	"fmt"
	"maps"
	"math"
	"slices"
	"strings"
	"testing"

	"shelfmark/api"
	"shelfmark/lock"
	"shelfmark/sample"
)

var from = sample.Range

// locks are those that have to be there, by their numbers, with ranges that have what each has to have.
type locks map[int][]api.Range

// badIds are numbers that no lock has.
func badIds() []int {
	return []int{0, -1, -2, -5, math.MinInt, math.MinInt + 1, -1 << 32, -1<<32 + 1}
}

// ids are numbers that locks may have, rising.
func ids() []int {
	return []int{1, 2, 3, 5, 8, 255, 256, 1<<16 + 1, 1 << 32, 1<<32 + 1, 1 << 40, math.MaxInt - 1, math.MaxInt}
}

// fullRanges are ranges that have texts.
func fullRanges() []api.Range {
	long := strings.Repeat("k", 300)
	return []api.Range{
		{}, from("a", ""), from("", "a"), from("", "\x00"), from("\x00", ""), from("a", "c"), from("c", "e"), from("a", "a\x00"), from("a\x00", "b"),
		from("Z", "ä"), from("\x7f", "\x80"), from("\xff", ""), from("\xff", "\xff\x00"), from(long, long+"\x00"), from("b", long), from(string(sample.Bytes(300)), ""),
	}
}

// keys are such as matter to what is there.
func keys(want locks) []string {
	all := sample.Edges()
	for _, l := range want {
		for _, r := range l {
			all = append(all, r.Lo, r.Lo+"\x00", r.Hi, r.Hi+"\x00")
		}
	}
	slices.Sort(all)
	return slices.Compact(all)
}

// questions are ranges that are asked for: with and without texts, and such as begin or end where a lock does.
func questions(want locks) []api.Range {
	ends := []string{"", "b", "\xff"}
	for _, l := range want {
		for _, r := range l {
			ends = append(ends, r.Lo, r.Hi)
		}
	}
	slices.Sort(ends)
	ends = slices.Compact(ends)
	return append(sample.Ranges(ends[:min(len(ends), 8)]...), from("a", "a\x00"), from("c", "b"), from("", "\x00"))
}

// name is how ranges are told in a fault's text: how many there are, and the first ones.
func name(l ...api.Range) string {
	return fmt.Sprintf("%d: %.200q", len(l), fmt.Sprintf("%q", l[:min(len(l), 6)]))
}

// table is one in which locks are that hold for so many ticks.
func table(t *testing.T, lease int, want locks) *lock.Table {
	t.Helper()
	tb := lock.New(lease)
	for _, id := range slices.Sorted(maps.Keys(want)) {
		for _, r := range want[id] {
			checkTake(t, tb, id, r, api.OK)
		}
	}
	return tb
}

// tick lets a table's clock go on by so many ticks.
func tick(tb *lock.Table, n int) {
	for range n {
		tb.Tick()
	}
}

func checkTake(t *testing.T, tb *lock.Table, id int, r api.Range, want api.Errno) {
	t.Helper()
	if got := tb.Take(id, r); got != want {
		t.Fatalf("Take(%d, %s) = %d, not %d", id, name(r), got, want)
	}
}

func checkRenew(t *testing.T, tb *lock.Table, id int, want bool) {
	t.Helper()
	if got := tb.Renew(id); got != want {
		t.Fatalf("Renew(%d) = %t, not %t", id, got, want)
	}
}

func checkFree(t *testing.T, tb *lock.Table, id int, want bool) {
	t.Helper()
	if got := tb.Free(id); got != want {
		t.Fatalf("Free(%d) = %t, not %t", id, got, want)
	}
}

func checkHolds(t *testing.T, tb *lock.Table, id int, r api.Range, want bool) {
	t.Helper()
	if got := tb.Holds(id, r); got != want {
		t.Fatalf("Holds(%d, %s) = %t, not %t", id, name(r), got, want)
	}
}

func checkBlocks(t *testing.T, tb *lock.Table, key string, want bool) {
	t.Helper()
	if got := tb.Blocks(key); got != want {
		t.Fatalf("Blocks(%.50q) = %t, not %t", key, got, want)
	}
}

func checkRanges(t *testing.T, tb *lock.Table, id int, want []api.Range) {
	t.Helper()
	if got := tb.Ranges(id); !slices.Equal(got, want) {
		t.Fatalf("Ranges(%d) = %s, not %s", id, name(got...), name(want...))
	}
}

// checkTable asks a table all that can be asked without changing it.
func checkTable(t *testing.T, tb *lock.Table, want locks) {
	t.Helper()
	there := slices.Sorted(maps.Keys(want))
	if got := tb.Ids(); !slices.Equal(got, there) {
		t.Fatalf("Ids = %d, not %d", got, there)
	}
	asked := questions(want)
	for _, id := range there {
		checkRanges(t, tb, id, sample.Least(want[id]))
		for _, r := range asked {
			checkHolds(t, tb, id, r, sample.Covers(want[id], r))
		}
	}
	for _, id := range []int{0, -1, math.MinInt, 4, 77, 1<<32 + 3, math.MaxInt} {
		if _, ok := want[id]; ok {
			continue
		}
		checkRanges(t, tb, id, nil)
		for _, r := range asked {
			checkHolds(t, tb, id, r, false)
		}
	}
	all := sample.Least(slices.Concat(slices.Collect(maps.Values(want))...))
	for _, key := range keys(want) {
		checkBlocks(t, tb, key, sample.InSet(all, key))
	}
}
