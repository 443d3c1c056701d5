package outbox_test

import (
	"fmt"
	"math"
	"slices"
	"testing"

	"shelfmark/api"
	"shelfmark/outbox"
	"shelfmark/sample"
)

// mosts are numbers of intents that an outbox may be for: also for none.
func mosts() []int {
	return []int{math.MinInt, math.MinInt + 1, -1 << 32, -40, -1, 0, 1, 2, 40, 1 << 32, 1<<32 + 1, math.MaxInt - 1, math.MaxInt}
}

// P18.1: New

func TestNewHasNone(t *testing.T) {
	for _, most := range mosts() {
		checkBox(t, outbox.New(most), most, nil)
	}
}

func TestAnOutboxForNone(t *testing.T) {
	for _, most := range []int{math.MinInt, -40, -1, 0} {
		b := outbox.New(most)
		checkAdd(t, b, nil, api.OK)
		checkAdd(t, b, []api.Intent{}, api.OK)
		checkAdd(t, b, few(1), api.ErrFull)
		checkAdd(t, b, few(5), api.ErrFull)
		checkAdd(t, b, badIntents()[:1], api.ErrArg)
		checkBox(t, b, most, nil)
	}
}

// P18.1: Add

func TestAddKeepsTheOrder(t *testing.T) {
	all := intents()
	for _, l := range [][]api.Intent{all, few(24), few(3)} {
		back := slices.Clone(l)
		slices.Reverse(back)
		for _, want := range [][]api.Intent{l, back} {
			// All at once, one by one, and three by three.
			b := box(t, len(want), want...)
			checkBox(t, b, len(want), want)
			for _, n := range []int{1, 3} {
				b := outbox.New(math.MaxInt)
				for more := range slices.Chunk(want, n) {
					checkAdd(t, b, more, api.OK)
				}
				checkBox(t, b, math.MaxInt, want)
			}
		}
	}
}

// Of all lists of a few intents, some of one name.
func TestAddOfAllSmallLists(t *testing.T) {
	e, f := some()[0], some()[1]
	lists := sample.Lists(3, intent(e, 1, false), intent(e, 1, true), intent(e, 2, false), intent(f, 1, true), intent(f, 0, true))
	for most := range 4 {
		for _, l := range lists {
			first, e := added(most, nil, l)
			if e == api.OK {
				for _, more := range lists {
					b := box(t, most, l...)
					all, e := added(most, first, more)
					checkAdd(t, b, more, e)
					checkBox(t, b, most, all)
				}
				continue
			}
			b := outbox.New(most)
			checkAdd(t, b, l, e)
			checkBox(t, b, most, nil)
		}
	}
}

func TestANameIsAnEntryAndAVersion(t *testing.T) {
	e, f := some()[0], some()[1]
	b := box(t, 10, intent(e, 1, false))
	// Gone is no part of it: what came first stays.
	checkAdd(t, b, []api.Intent{intent(e, 1, true), intent(e, 1, false), intent(e, 2, true), intent(e, 2, false), intent(f, 1, true)}, api.OK)
	want := []api.Intent{intent(e, 1, false), intent(e, 2, true), intent(f, 1, true)}
	checkBox(t, b, 10, want)
	// Versions that are like each other in their lower bits are unlike.
	for _, version := range []int{256 + 1, 1<<32 + 1, 1<<16 + 1, 1<<32 + 2, mostNumber} {
		want = append(want, intent(e, version, true))
		checkAdd(t, b, want[len(want)-1:], api.OK)
	}
	checkBox(t, b, 10, want)
	// And so are entries of which one begins the other one.
	long := entryOf(1, "cc", sample.Int(1))
	checkAdd(t, b, []api.Intent{intent(long, 1, false), intent(long, 2, false)}, api.OK)
	checkBox(t, b, 10, append(want, intent(long, 1, false), intent(long, 2, false)))
}

// checkRefused asks for what adding has to be refused with, and that nothing changes by it.
func checkRefused(t *testing.T, most int, l, more []api.Intent, e api.Errno) {
	t.Helper()
	b := box(t, most, l...)
	checkAdd(t, b, more, e)
	checkBox(t, b, most, l)
	// What was refused has left no name: with more room it would come.
	j, e := outbox.Join(outbox.New(len(l)+len(more)), b)
	if e != api.OK {
		t.Fatalf("Join = %d", e)
	}
	right := slices.DeleteFunc(slices.Clone(more), func(i api.Intent) bool { return !right(i) })
	checkAdd(t, j, right, api.OK)
	checkList(t, "Due of all", j.Due(math.MaxInt), united(l, right))
}

func TestAddErrArg(t *testing.T) {
	good := few(6)
	for _, bad := range badIntents() {
		for _, most := range []int{100, 6, 3} {
			// At each place, also behind those for which there is no room, and behind one whose name waits.
			for place := range 6 {
				more := slices.Insert(slices.Clone(good), place, bad)
				checkRefused(t, most, nil, more, api.ErrArg)
				checkRefused(t, most, good[3:], more, api.ErrArg)
			}
			checkRefused(t, most, nil, []api.Intent{bad}, api.ErrArg)
			checkRefused(t, most, good[:3], []api.Intent{bad, bad}, api.ErrArg)
		}
	}
}

func TestAddOfTheEdgesOfWhatIsRight(t *testing.T) {
	for _, e := range entries() {
		for _, version := range []int{1, mostNumber} {
			l := []api.Intent{intent(e, version, version == 1)}
			checkList(t, "Due", box(t, 1, l...).Due(1), l)
		}
		for _, version := range []int{0, mostNumber + 1} {
			checkAdd(t, outbox.New(1), []api.Intent{intent(e, version, version == 0)}, api.ErrArg)
		}
	}
}

func TestAddErrFull(t *testing.T) {
	all := few(12)
	for most := range 9 {
		for there := range most + 1 {
			for more := range 12 - there {
				l, next := all[:there], all[there:there+more]
				if there+more > most {
					checkRefused(t, most, l, next, api.ErrFull)
					continue
				}
				b := box(t, most, l...)
				checkAdd(t, b, next, api.OK)
				checkBox(t, b, most, all[:there+more])
			}
		}
	}
}

// Names that wait, and such as come twice, need no room.
func TestAddCountsNames(t *testing.T) {
	all := few(9)
	for most := range 8 {
		b := box(t, most, all[:most]...)
		for range 3 {
			checkAdd(t, b, all[:most], api.OK)
			checkAdd(t, b, slices.Concat(all[:most], all[:most]), api.OK)
		}
		checkBox(t, b, most, all[:most])
		checkRefused(t, most, all[:most], all[:most+1], api.ErrFull)
		checkRefused(t, most, nil, all[:most+1], api.ErrFull)
		// The last room is for one that comes many times.
		b = box(t, most+1, all[:most]...)
		checkAdd(t, b, append(slices.Repeat(all[most:most+1], 100), all[:most]...), api.OK)
		checkBox(t, b, most+1, all[:most+1])
		checkAdd(t, b, all[most+1:], api.ErrFull)
		checkBox(t, b, most+1, all[:most+1])
	}
}

func TestRoomAndLenOfAShardsOutbox(t *testing.T) {
	all := few(api.MaxOutbox + 1)
	b := outbox.New(api.MaxOutbox)
	for n := range 40 {
		checkCount(t, "Len", b.Len(), n)
		checkCount(t, "Room", b.Room(), 40-n)
		checkAdd(t, b, all[n:n+1], api.OK)
	}
	checkAdd(t, b, all[40:], api.ErrFull)
	checkBox(t, b, 40, all[:40])
	checkDone(t, b, all[7:8], 1)
	checkAdd(t, b, all[40:], api.OK)
	checkBox(t, b, 40, slices.Concat(all[:7], all[8:]))
}

func TestRoomOfAGreatOutbox(t *testing.T) {
	b := box(t, math.MaxInt, few(5)...)
	checkBox(t, b, math.MaxInt, few(5))
	checkCount(t, "Room", b.Room(), math.MaxInt-5)
}

func TestMany(t *testing.T) {
	const many = 20000
	var l []api.Intent
	for n := range many {
		l = append(l, intent(some()[n%6], 1+n/6, n%5 == 0))
	}
	b := outbox.New(many)
	for more := range slices.Chunk(l, 7) {
		checkAdd(t, b, more, api.OK)
	}
	checkAdd(t, b, l, api.OK)
	checkAdd(t, b, []api.Intent{intent(some()[0], many, true)}, api.ErrFull)
	checkList(t, "Due of all", b.Due(many), l)
	checkDone(t, b, slices.Concat(l[many/2:], l[many/2:]), many/2)
	checkList(t, "Due of all", b.Due(many), l[:many/2])
	checkAdd(t, b, l, api.OK)
	checkList(t, "Due of all", b.Due(many), l)
	checkCount(t, "Drop", b.Drop(api.Range{}), many)
	checkBox(t, b, many, nil)
}

// P18.2: Due

func TestDue(t *testing.T) {
	l := few(7)
	b := box(t, 7, l...)
	for _, n := range []int{math.MinInt, -1 << 32, -1, 0} {
		checkList(t, fmt.Sprintf("Due(%d)", n), b.Due(n), nil)
	}
	for n := 1; n <= 7; n++ {
		// It takes none out: the same ones are due again.
		checkList(t, fmt.Sprintf("Due(%d)", n), b.Due(n), l[:n])
		checkList(t, fmt.Sprintf("Due(%d)", n), b.Due(n), l[:n])
	}
	for _, n := range []int{8, 100, 1 << 32, math.MaxInt} {
		checkList(t, fmt.Sprintf("Due(%d)", n), b.Due(n), l)
	}
	checkBox(t, b, 7, l)
}

// P18.2: Done

func TestDoneOfAllSmallLists(t *testing.T) {
	e, f := some()[0], some()[1]
	l := []api.Intent{intent(e, 1, false), intent(f, 1, true), intent(e, 2, true)}
	for _, done := range sample.Lists(3, append(l, intent(f, 2, false), intent(e, 1, true))...) {
		b := box(t, 5, l...)
		left := without(l, done)
		checkDone(t, b, done, len(l)-len(left))
		checkBox(t, b, 5, left)
		checkDone(t, b, done, 0)
		checkBox(t, b, 5, left)
		// They may come again, and stand behind the others then.
		checkAdd(t, b, l, api.OK)
		checkBox(t, b, 5, united(left, l))
	}
}

func TestDoneGoesByNames(t *testing.T) {
	e, f := some()[0], some()[1]
	l := []api.Intent{intent(e, 1, false), intent(e, 2, true), intent(f, 1, true), intent(f, 1<<32+1, true)}
	b := box(t, 4, l...)
	// Of neither name: the entry or the version is another one.
	checkDone(t, b, []api.Intent{intent(e, 3, false), intent(f, 2, true), intent(some()[2], 1, false), intent(e, 1<<32+1, true), intent(e+"c", 1, false)}, 0)
	checkBox(t, b, 4, l)
	// Gone is no part of a name; of several of one name one is there.
	checkDone(t, b, []api.Intent{intent(e, 1, true), intent(e, 1, false), intent(f, 1, false), intent(f, 1, false)}, 2)
	checkBox(t, b, 4, []api.Intent{l[1], l[3]})
}

func TestDoneOfWrongIntents(t *testing.T) {
	l := few(5)
	b := box(t, 5, l...)
	for _, bad := range badIntents() {
		checkDone(t, b, []api.Intent{bad}, 0)
	}
	checkDone(t, b, badIntents(), 0)
	checkDone(t, b, nil, 0)
	checkDone(t, b, []api.Intent{}, 0)
	checkBox(t, b, 5, l)
	// Beside them others are found.
	checkDone(t, b, append(badIntents(), l[3], l[1]), 2)
	checkBox(t, b, 5, []api.Intent{l[0], l[2], l[4]})
}

func TestDoneOfAll(t *testing.T) {
	for _, l := range [][]api.Intent{intents(), few(24)} {
		b := box(t, len(l), l...)
		back := slices.Clone(l)
		slices.Reverse(back)
		checkDone(t, b, back, len(l))
		checkBox(t, b, len(l), nil)
		checkAdd(t, b, back, api.OK)
		checkBox(t, b, len(l), back)
		for n := range 5 {
			checkDone(t, b, b.Due(3), 3)
			checkBox(t, b, len(l), back[3*n+3:])
		}
	}
}

// P18.2: Of, Drop

func TestOfAndDrop(t *testing.T) {
	l := few(24)
	all := append(spans(l), sample.EmptyRanges()...)
	for _, s := range some() {
		all = append(all, from(s, ""), from("", s), from(s+"\x00", ""), from("", s+"\x00"), from(s, s+"\x00"), from(s[:3], s), from(s, "\x00\x06"))
	}
	for _, r := range all {
		b := box(t, 24, l...)
		checkList(t, fmt.Sprintf("Of(%q)", r), b.Of(r), in(l, r))
		checkBox(t, b, 24, l)
		checkCount(t, fmt.Sprintf("Drop(%q)", r), b.Drop(r), len(in(l, r)))
		checkBox(t, b, 24, notIn(l, r))
		checkList(t, fmt.Sprintf("Of(%q)", r), b.Of(r), nil)
		checkCount(t, fmt.Sprintf("Drop(%q)", r), b.Drop(r), 0)
		// What was dropped may come again.
		checkAdd(t, b, l, api.OK)
		checkBox(t, b, 24, united(notIn(l, r), l))
	}
}

func TestOfAndDropOfAnIndex(t *testing.T) {
	l := intents()
	b := box(t, len(l), l...)
	for id := 1; id <= 7; id++ {
		r := from(string([]byte{0, byte(id)}), string([]byte{0, byte(id + 1)}))
		want := in(l, r)
		if (len(want) > 0) != (id <= 6) {
			t.Fatalf("%d intents of index %d", len(want), id)
		}
		checkList(t, fmt.Sprintf("Of(%q)", r), b.Of(r), want)
		checkCount(t, fmt.Sprintf("Drop(%q)", r), b.Drop(r), len(want))
		l = notIn(l, r)
		checkBox(t, b, len(intents()), l)
	}
	checkCount(t, "Len", b.Len(), 0)
}

// P18.4

func TestLatestOfAllSmallLists(t *testing.T) {
	for _, l := range sample.Lists(4, intent("b", 1, false), intent("b", 1, true), intent("b", 2, false), intent("b", 2, true), intent("a", 2, false), intent("bb", 1, true)) {
		checkList(t, "Latest of "+name(l...), outbox.Latest(l), latest(l))
	}
}

func TestLatestOfMany(t *testing.T) {
	l := intents()
	checkList(t, "Latest of "+name(l...), outbox.Latest(l), latest(l))
	back := slices.Clone(l)
	slices.Reverse(back)
	checkList(t, "Latest of "+name(back...), outbox.Latest(back), latest(l))
	twice := append(back, l...)
	for i := range back {
		twice[i].Gone = !twice[i].Gone
	}
	checkList(t, "Latest of "+name(twice...), outbox.Latest(twice), latest(l))
	if len(latest(l)) != len(entries()) {
		t.Errorf("%d entries, not %d", len(latest(l)), len(entries()))
	}
}

// It asks not whether intents are right.
func TestLatestOfAnyIntents(t *testing.T) {
	checkList(t, "Latest of none", outbox.Latest(nil), nil)
	checkList(t, "Latest of none", outbox.Latest([]api.Intent{}), nil)
	checkList(t, "Latest of one", outbox.Latest(make([]api.Intent, 1)), make([]api.Intent, 1))
	checkList(t, "Latest of three", outbox.Latest(make([]api.Intent, 3)), make([]api.Intent, 1))
	l := append(badIntents(), intents()[:20]...)
	checkList(t, "Latest of "+name(l...), outbox.Latest(l), latest(l))
	var below []api.Intent
	for _, version := range []int{-1, math.MinInt, math.MinInt + 1, -1, -7, 0} {
		below = append(below, intent("", version, version == -1))
		checkList(t, "Latest of "+name(below...), outbox.Latest(below), latest(below))
	}
	// Versions whose difference is beyond all numbers.
	far := []api.Intent{intent("e", math.MaxInt, true), intent("e", math.MinInt, false), intent("e", -2, false)}
	checkList(t, "Latest of "+name(far...), outbox.Latest(far), far[:1])
	slices.Reverse(far)
	checkList(t, "Latest of "+name(far...), outbox.Latest(far), far[2:])
}

func TestLatestIsByRisingEntries(t *testing.T) {
	texts := sample.Edges()
	slices.Sort(texts)
	var want []api.Intent
	for n, s := range texts {
		want = append(want, intent(s, n, n%2 == 0))
	}
	for n := range want {
		l := slices.Concat(want[n:], want[:n])
		checkList(t, "Latest of "+name(l...), outbox.Latest(l), want)
		slices.Reverse(l)
		checkList(t, "Latest of "+name(l...), outbox.Latest(l), want)
	}
}

// The chapter's example

func TestExample(t *testing.T) {
	e := sample.Entry(1, []api.Val{sample.Int(1)}, "k")
	b := outbox.New(40)
	checkAdd(t, b, []api.Intent{intent(e, 1, false), intent(e, 2, true), intent(e, 1, false)}, api.OK)
	checkCount(t, "Len", b.Len(), 2)
	checkList(t, "Due(1)", b.Due(1), []api.Intent{{Entry: e, Version: 1}})
	checkList(t, "Latest", outbox.Latest(b.Due(9)), []api.Intent{{Entry: e, Version: 2, Gone: true}})
	checkDone(t, b, []api.Intent{intent(e, 1, false), intent(e, 7, false)}, 1)
	checkList(t, "Due(9)", b.Due(9), []api.Intent{{Entry: e, Version: 2, Gone: true}})
}
