package lock_test

import (
	"math"
	"slices"
	"testing"

	"shelfmark/api"
	"shelfmark/lock"
	"shelfmark/sample"
)

// P16.1

func TestANewTableHasNoLocks(t *testing.T) {
	for _, lease := range []int{math.MinInt, -1, 0, 1, 2, 8, 1 << 32, math.MaxInt} {
		tb := lock.New(lease)
		checkTable(t, tb, nil)
		for _, id := range append(badIds(), ids()...) {
			checkRenew(t, tb, id, false)
			checkFree(t, tb, id, false)
		}
		tb.Tick()
		tb.Lose(api.Range{})
		checkTable(t, tb, nil)
	}
}

func TestTablesAreApart(t *testing.T) {
	one, two := lock.New(2), lock.New(1)
	checkTake(t, one, 1, from("a", "b"), api.OK)
	checkTable(t, two, nil)
	checkTake(t, two, 1, from("c", "d"), api.OK)
	checkTake(t, two, 2, from("c", "d"), api.OK)
	two.Tick()
	two.Lose(api.Range{})
	checkTable(t, one, locks{1: {from("a", "b")}})
	checkTable(t, two, nil)
}

func TestTakeOfAllNumbersAndRanges(t *testing.T) {
	for _, r := range fullRanges() {
		tb, want := lock.New(1), locks{}
		for _, id := range ids() {
			checkTake(t, tb, id, r, api.OK)
			want[id] = []api.Range{r}
			checkTable(t, tb, want)
		}
	}
}

func TestTakeAddsToWhatTheLockHas(t *testing.T) {
	for _, id := range []int{1, 7, math.MaxInt} {
		tb, want := lock.New(1), locks{}
		for _, r := range []api.Range{from("m", "n"), from("a", "c"), from("c", "e"), from("a", "c"), from("b", "d"), from("n\x00", "p"), from("", "\x00"), from("n", "o"), from("x", ""), from("e", "m"), {}} {
			checkTake(t, tb, id, r, api.OK)
			want[id] = append(want[id], r)
			checkTable(t, tb, want)
		}
		checkRanges(t, tb, id, []api.Range{{}})
	}
}

func TestSeveralLocksMayHaveTheSameKey(t *testing.T) {
	tb := lock.New(3)
	want := locks{1: {from("a", "d")}, 2: {from("a", "d")}, 5: {from("b", "")}, 9: {{}}}
	for _, id := range []int{9, 2, 1, 5} {
		checkTake(t, tb, id, want[id][0], api.OK)
	}
	checkTable(t, tb, want)
	checkFree(t, tb, 9, true)
	delete(want, 9)
	checkTable(t, tb, want)
	checkFree(t, tb, 1, true)
	checkFree(t, tb, 5, true)
	checkTable(t, tb, locks{2: {from("a", "d")}})
}

// What is refused adds nothing, makes no lock, and makes none as new.
func TestTakeOfWhatMayNotBe(t *testing.T) {
	want := locks{1: {from("a", "c")}, 3: {from("b", "")}}
	tb := table(t, 2, want)
	tb.Tick()
	for _, id := range badIds() {
		for _, r := range append(fullRanges(), sample.EmptyRanges()...) {
			checkTake(t, tb, id, r, api.ErrArg)
		}
	}
	for _, id := range ids() {
		for _, r := range sample.EmptyRanges() {
			checkTake(t, tb, id, r, api.ErrArg)
		}
	}
	checkTable(t, tb, want)
	tb.Tick()
	checkTable(t, tb, nil)
}

func TestALockHoldsForTheLease(t *testing.T) {
	for _, c := range []struct{ lease, ticks int }{{math.MinInt, 1}, {-8, 1}, {-1, 1}, {0, 1}, {1, 1}, {2, 2}, {3, 3}, {8, 8}, {9, 9}, {300, 300}} {
		want := locks{4: {from("a", "c"), from("m", "")}}
		tb := table(t, c.lease, want)
		for range c.ticks - 1 {
			tb.Tick()
			checkTable(t, tb, want)
		}
		tb.Tick()
		checkTable(t, tb, nil)
		checkRenew(t, tb, 4, false)
		checkFree(t, tb, 4, false)
	}
}

func TestLeasesBeyondAllTicks(t *testing.T) {
	for _, lease := range []int{math.MaxInt, math.MaxInt - 1, 1 << 40, 1 << 32} {
		want := locks{1: {from("a", "c")}}
		tb := table(t, lease, want)
		tick(tb, 100000)
		checkTable(t, tb, want)
		checkRenew(t, tb, 1, true)
		tick(tb, 100000)
		checkTable(t, tb, want)
	}
}

// The clock goes on while there is no lock, and that changes nothing for those that come.
func TestALockHoldsFromWhenItWasTaken(t *testing.T) {
	for _, early := range []int{0, 1, 2, 3, 4, 1000} {
		tb := lock.New(3)
		tick(tb, early)
		checkTake(t, tb, 1, from("a", "b"), api.OK)
		tick(tb, 2)
		checkTable(t, tb, locks{1: {from("a", "b")}})
		tb.Tick()
		checkTable(t, tb, nil)
	}
}

func TestEachLockIsGoneAtItsOwnTick(t *testing.T) {
	tb := lock.New(3)
	checkTake(t, tb, 1, from("a", "b"), api.OK)
	tb.Tick()
	checkTake(t, tb, 2, from("a", "c"), api.OK)
	checkTake(t, tb, 3, from("b", "d"), api.OK)
	tb.Tick()
	checkTake(t, tb, 4, from("x", "y"), api.OK)
	checkRenew(t, tb, 3, true)
	tb.Tick()
	checkTable(t, tb, locks{2: {from("a", "c")}, 3: {from("b", "d")}, 4: {from("x", "y")}})
	tb.Tick()
	checkTable(t, tb, locks{3: {from("b", "d")}, 4: {from("x", "y")}})
	tb.Tick()
	checkTable(t, tb, nil)
}

// Whether what is added is new to it or not: the whole lock is as new.
func TestTakeMakesTheLockAsNew(t *testing.T) {
	for _, r := range []api.Range{from("x", "y"), from("c", "e"), from("a", "c"), from("b", "b\x00"), {}} {
		tb := table(t, 3, locks{1: {from("a", "c")}, 2: {from("a", "c")}})
		tick(tb, 2)
		checkTake(t, tb, 1, r, api.OK)
		want := locks{1: {from("a", "c"), r}}
		for range 2 {
			tb.Tick()
			checkTable(t, tb, want)
		}
		tb.Tick()
		checkTable(t, tb, nil)
	}
}

func TestRenewMakesTheLockAsNew(t *testing.T) {
	for _, lease := range []int{0, 1, 2, 8} {
		want := locks{1: {from("a", "c")}}
		tb := table(t, lease, locks{1: {from("a", "c")}, 2: {from("b", "")}})
		last := max(lease, 1) - 1
		for range 5 {
			tick(tb, last)
			checkRenew(t, tb, 1, true)
			checkRenew(t, tb, 1, true)
		}
		if last == 0 {
			want[2] = []api.Range{from("b", "")}
		}
		checkTable(t, tb, want)
		tick(tb, last+1)
		checkTable(t, tb, nil)
	}
}

func TestRenewAndFreeOfLocksThatAreNotThere(t *testing.T) {
	want := locks{2: {from("a", "c")}}
	tb := table(t, 2, want)
	tb.Tick()
	for _, id := range append(badIds(), 1, 3, 4, 1<<32+2, math.MaxInt) {
		checkRenew(t, tb, id, false)
		checkFree(t, tb, id, false)
	}
	checkTable(t, tb, want)
	tb.Tick()
	checkTable(t, tb, nil)
}

func TestFreeTakesOneLockAway(t *testing.T) {
	want := locks{1: {from("a", "c")}, 2: {from("a", "c"), from("x", "")}, 3: {{}}}
	tb := table(t, 2, want)
	for _, id := range []int{2, 3, 1} {
		checkFree(t, tb, id, true)
		delete(want, id)
		checkTable(t, tb, want)
		checkFree(t, tb, id, false)
		checkRenew(t, tb, id, false)
	}
}

// It has nothing of what it had, and holds from then on.
func TestALockThatWasGoneBeginsAnew(t *testing.T) {
	for i, goes := range []func(tb *lock.Table){
		func(tb *lock.Table) { tb.Free(1) },
		func(tb *lock.Table) { tb.Lose(api.Range{}) },
		func(tb *lock.Table) { tick(tb, 3) },
	} {
		tb := table(t, 3, locks{1: {from("a", "c")}})
		tick(tb, 2)
		goes(tb)
		checkTable(t, tb, nil)
		checkTake(t, tb, 1, from("m", "n"), api.OK)
		tick(tb, 2)
		checkTable(t, tb, locks{1: {from("m", "n")}})
		tb.Tick()
		checkTable(t, tb, nil)
		if t.Failed() {
			t.Fatalf("way %d", i)
		}
	}
}

// P16.2

func TestHoldsIfTheLocksRangesCoverIt(t *testing.T) {
	tb := table(t, 1, locks{1: {from("m", "p"), from("c", "e"), from("e", "g"), from("f", "k")}, 2: {from("k", "m")}, 3: {from("b", "")}, 4: {from("", "b"), from("b\x00", "")}, 5: {from("", "b"), from("b", "")}})
	for _, c := range []struct {
		id   int
		r    api.Range
		want bool
	}{
		{1, from("c", "k"), true}, {1, from("c", "c\x00"), true}, {1, from("d", "f"), true}, {1, from("m", "p"), true}, {1, from("n", "o"), true},
		{1, from("b\xff", "d"), false}, {1, from("c", "k\x00"), false}, {1, from("j", "n"), false}, {1, from("c", "p"), false}, {1, from("m", ""), false}, {1, from("", "d"), false}, {1, from("x", "z"), false}, {1, api.Range{}, false},
		// What another lock has doesn't count.
		{1, from("k", "m"), false}, {2, from("k", "m"), true}, {2, from("j", "m"), false}, {2, from("c", "e"), false},
		{3, from("b", ""), true}, {3, from("c", "d"), true}, {3, from("a", ""), false}, {3, from("a\xff", "c"), false},
		{4, from("", "b"), true}, {4, from("b\x00", ""), true}, {4, from("b", "b\x00"), false}, {4, from("a", "c"), false}, {4, api.Range{}, false},
		{5, api.Range{}, true}, {5, from("a", "c"), true},
		// A lock that is there covers what has no key; one that isn't there holds nothing.
		{1, from("x", "x"), true}, {1, from("x", "a"), true}, {5, from("\x00", "\x00"), true},
		{6, from("c", "d"), false}, {6, from("x", "x"), false}, {0, from("x", "a"), false}, {-1, from("c", "d"), false}, {math.MinInt, api.Range{}, false}, {math.MaxInt, from("a", "a"), false}, {1<<32 + 1, from("c", "d"), false},
	} {
		checkHolds(t, tb, c.id, c.r, c.want)
	}
}

func TestBlocksFromLoOnAndBelowHi(t *testing.T) {
	tb := table(t, 1, locks{3: {from("b", "d"), from("\x00", "\x00\x00")}, 1: {from("c", "f"), from("x", "x\x00")}, 2: {from("\xff", "")}})
	for _, c := range []struct {
		key  string
		want bool
	}{
		{"", false}, {"\x00", true}, {"\x00\x00", false}, {"a", false}, {"a\xff", false}, {"b", true}, {"b\x00", true}, {"c", true}, {"d", true}, {"e\xff\xff", true},
		{"f", false}, {"f\x00", false}, {"w", false}, {"x", true}, {"x\x00", false}, {"ä", false}, {"\xfe\xff", false}, {"\xff", true}, {"\xff\xff\xff", true},
	} {
		checkBlocks(t, tb, c.key, c.want)
	}
	checkFree(t, tb, 1, true)
	for key, want := range map[string]bool{"b": true, "c": true, "d": false, "e": false, "x": false, "\xff": true} {
		checkBlocks(t, tb, key, want)
	}
}

func TestBlocksAllKeys(t *testing.T) {
	tb := table(t, 1, locks{1: {{}}})
	for _, key := range append(sample.Edges(), sample.Keys()...) {
		checkBlocks(t, tb, key, true)
	}
}

func TestIdsRise(t *testing.T) {
	tb := lock.New(1)
	all := ids()
	for i := range all {
		// In an order that isn't that of the numbers.
		checkTake(t, tb, all[(i*5+7)%len(all)], from("a", "b"), api.OK)
	}
	for range 20 {
		if got := tb.Ids(); !slices.Equal(got, all) {
			t.Fatalf("Ids = %d, not %d", got, all)
		}
	}
}

func TestRangesIsTheLeastForm(t *testing.T) {
	for _, c := range []struct{ l, want []api.Range }{
		{[]api.Range{{}}, []api.Range{{}}},
		{[]api.Range{from("c", "d"), from("a", "b")}, []api.Range{from("a", "b"), from("c", "d")}},
		{[]api.Range{from("c", "d"), from("a", "b"), from("b", "c")}, []api.Range{from("a", "d")}},
		{[]api.Range{from("b", ""), from("", "b")}, []api.Range{{}}},
		{[]api.Range{from("a", "b"), from("b\x00", "c")}, []api.Range{from("a", "b"), from("b\x00", "c")}},
		{[]api.Range{from("a", "d"), from("b", "c")}, []api.Range{from("a", "d")}},
		{[]api.Range{from("a", ""), from("b", "c")}, []api.Range{from("a", "")}},
		{[]api.Range{from("a", "c"), from("b", "")}, []api.Range{from("a", "")}},
		{[]api.Range{from("ä", ""), from("a", "\x80"), from("Z", "[")}, []api.Range{from("Z", "["), from("a", "\x80"), from("ä", "")}},
	} {
		checkRanges(t, table(t, 1, locks{6: c.l}), 6, c.want)
	}
	tb := table(t, 1, locks{6: {{}}})
	for _, id := range append(badIds(), 5, 7, 1<<32+6) {
		checkRanges(t, tb, id, nil)
	}
}

// P16.3

func TestLoseTakesTheRangeFromAllLocks(t *testing.T) {
	all := locks{1: {from("a", "c"), from("c", "e"), from("m", "")}, 2: {from("b", "d")}, 3: {{}}, 4: {from("x", "z")}}
	for _, c := range []struct {
		r    api.Range
		want locks
	}{
		{api.Range{}, nil},
		{from("a", ""), locks{3: {from("", "a")}}},
		{from("", "a"), locks{1: all[1], 2: all[2], 3: {from("a", "")}, 4: all[4]}},
		{from("", "b"), locks{1: {from("b", "e"), from("m", "")}, 2: all[2], 3: {from("b", "")}, 4: all[4]}},
		{from("b", "d"), locks{1: {from("a", "b"), from("d", "e"), from("m", "")}, 3: {from("", "b"), from("d", "")}, 4: all[4]}},
		{from("c", "c\x00"), locks{1: {from("a", "c"), from("c\x00", "e"), from("m", "")}, 2: {from("b", "c"), from("c\x00", "d")}, 3: {from("", "c"), from("c\x00", "")}, 4: all[4]}},
		{from("d", "n"), locks{1: {from("a", "d"), from("n", "")}, 2: all[2], 3: {from("", "d"), from("n", "")}, 4: all[4]}},
		{from("e", "m"), locks{1: all[1], 2: all[2], 3: {from("", "e"), from("m", "")}, 4: all[4]}},
		{from("y", ""), locks{1: {from("a", "e"), from("m", "y")}, 2: all[2], 3: {from("", "y")}, 4: {from("x", "y")}}},
		{from("w", "zz"), locks{1: {from("a", "e"), from("m", "w"), from("zz", "")}, 2: all[2], 3: {from("", "w"), from("zz", "")}}},
		{from("", "\x00"), locks{1: all[1], 2: all[2], 3: {from("\x00", "")}, 4: all[4]}},
	} {
		tb := table(t, 1, all)
		tb.Lose(c.r)
		checkTable(t, tb, c.want)
		// What no lock has any more can't be lost again.
		tb.Lose(c.r)
		checkTable(t, tb, c.want)
	}
}

func TestLoseOfARangeWithoutKeysChangesNothing(t *testing.T) {
	want := locks{1: {from("a", "c"), from("c", "e")}, 2: {{}}, 3: {from("b", "b\x00")}}
	tb := table(t, 1, want)
	for _, r := range sample.EmptyRanges() {
		tb.Lose(r)
		checkTable(t, tb, want)
	}
}

func TestALockThatHasNoKeyIsGone(t *testing.T) {
	tb := table(t, 1, locks{1: {from("a", "b"), from("c", "d")}, 2: {from("a", "d")}, 3: {from("a", "a\x00")}})
	tb.Lose(from("a", "a\x00"))
	checkTable(t, tb, locks{1: {from("a\x00", "b"), from("c", "d")}, 2: {from("a\x00", "d")}})
	tb.Lose(from("a", "b"))
	checkTable(t, tb, locks{1: {from("c", "d")}, 2: {from("b", "d")}})
	tb.Lose(from("c", "d"))
	checkTable(t, tb, locks{2: {from("b", "c")}})
	for _, id := range []int{1, 3} {
		checkHolds(t, tb, id, from("a", "a"), false)
		checkRenew(t, tb, id, false)
		checkFree(t, tb, id, false)
	}
}

// A lock that loses something is no newer by it, and can be renewed.
func TestLoseMakesNoLockAsNew(t *testing.T) {
	tb := table(t, 2, locks{1: {from("a", "c")}, 2: {from("b", "d")}})
	tb.Tick()
	tb.Lose(from("b", "c"))
	checkRenew(t, tb, 2, true)
	checkTable(t, tb, locks{1: {from("a", "b")}, 2: {from("c", "d")}})
	tb.Tick()
	checkTable(t, tb, locks{2: {from("c", "d")}})
	tb.Tick()
	checkTable(t, tb, nil)
}

func TestWhatWasLostCanBeTakenAgain(t *testing.T) {
	tb := table(t, 1, locks{1: {from("a", "e")}})
	tb.Lose(from("b", "d"))
	checkTake(t, tb, 1, from("b", "c"), api.OK)
	checkTable(t, tb, locks{1: {from("a", "c"), from("d", "e")}})
	checkTake(t, tb, 1, from("c", "d"), api.OK)
	checkTable(t, tb, locks{1: {from("a", "e")}})
}

func TestAllSmallTables(t *testing.T) {
	for _, ends := range [][]string{{"", "a", "b"}, {"", "\x00", "\xff"}, {"a", "a\x00", "b"}} {
		all := sample.Ranges(ends...)
		full := slices.DeleteFunc(slices.Clone(all), func(r api.Range) bool { return !sample.InRange(r, r.Lo) })
		for _, one := range sample.Lists(2, full...) {
			for _, two := range sample.Lists(1, full...) {
				for _, r := range all {
					checkLose(t, locks{1: one, 2: two}, r)
				}
			}
		}
	}
}

// checkLose asks for a table of two locks, of which one may have nothing and isn't there then, that loses a range.
func checkLose(t *testing.T, l locks, r api.Range) {
	t.Helper()
	want, left := locks{}, locks{}
	for id, has := range l {
		if len(has) > 0 {
			want[id] = has
		}
		if rest := sample.Minus(has, r); len(rest) > 0 {
			left[id] = rest
		}
	}
	tb := table(t, 1, want)
	checkTable(t, tb, want)
	tb.Lose(r)
	checkTable(t, tb, left)
}

// The chapter's examples

func TestExamples(t *testing.T) {
	tb := lock.New(2)
	checkTake(t, tb, 5, from("a", "c"), api.OK)
	tb.Tick()
	checkBlocks(t, tb, "b", true)
	checkRenew(t, tb, 5, true)
	tb.Tick()
	checkBlocks(t, tb, "b", true)
	tb.Tick()
	checkBlocks(t, tb, "b", false)

	checkTake(t, tb, 1, from("a", "c"), api.OK)
	checkTake(t, tb, 1, from("c", "e"), api.OK)
	checkHolds(t, tb, 1, from("b", "d"), true)
	tb.Lose(from("b", "z"))
	checkRanges(t, tb, 1, []api.Range{from("a", "b")})
}
