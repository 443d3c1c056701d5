package lock_test

import (
	"runtime"
	"slices"
	"strings"
	"testing"
	"unsafe"

	"shelfmark/api"
	"shelfmark/lock"
	"shelfmark/sample"
)

// lent is a range whose texts lie in memory that may be written over: by spoil.
func lent(r api.Range) (same api.Range, spoil func()) {
	b := []byte(r.Lo + r.Hi + "-")
	line := unsafe.String(&b[0], len(b))
	return from(line[:len(r.Lo)], line[len(r.Lo):len(b)-1]), func() { sample.Spoil(b) }
}

// P16.4, R4

func TestRangesThatAreTakenAreNotKept(t *testing.T) {
	for _, first := range fullRanges() {
		for _, second := range fullRanges() {
			tb := lock.New(1)
			for _, r := range []api.Range{first, second} {
				same, spoil := lent(r)
				checkTake(t, tb, 1, same, api.OK)
				spoil()
			}
			checkTable(t, tb, locks{1: {first, second}})
		}
	}
}

func TestRangesThatAreLostAreNotKept(t *testing.T) {
	for _, r := range append(fullRanges(), sample.EmptyRanges()...) {
		all := locks{1: {from("", "b"), from("c", "\xfe")}, 2: {{}}}
		tb, want := table(t, 1, all), locks{}
		same, spoil := lent(r)
		tb.Lose(same)
		spoil()
		for id, l := range all {
			if left := sample.Minus(l, r); len(left) > 0 {
				want[id] = left
			}
		}
		checkTable(t, tb, want)
	}
}

func TestWhatIsAskedForIsNotKept(t *testing.T) {
	want := locks{1: {from("a", "c"), from("m", "")}}
	tb := table(t, 1, want)
	for _, r := range fullRanges() {
		same, spoil := lent(r)
		tb.Holds(1, same)
		tb.Blocks(same.Lo)
		tb.Take(0, same)
		spoil()
		checkTable(t, tb, want)
	}
}

func TestWhatIsAnsweredIsNew(t *testing.T) {
	want := locks{1: {from("a", "c"), from("m", ""), from("e", "g")}, 2: {{}}, 7: {from("b", "d")}}
	tb := table(t, 1, want)
	kept, numbers := tb.Ranges(1), tb.Ids()
	for _, id := range tb.Ids() {
		answer := tb.Ranges(id)
		sample.Overwrite(answer, from("spoilt", "spoilt"))
		_ = append(answer[:1], from("spoilt", ""))
	}
	answer := tb.Ids()
	sample.Overwrite(answer, -1)
	_ = append(answer[:1], -1)
	checkTable(t, tb, want)
	// What was answered stays, whatever is done behind it.
	checkTake(t, tb, 1, from("c", "e"), api.OK)
	tb.Lose(from("a", "f"))
	checkFree(t, tb, 2, true)
	tb.Tick()
	if !slices.Equal(kept, sample.Least(want[1])) || !slices.Equal(numbers, []int{1, 2, 7}) {
		t.Errorf("answers became %s and %d", name(kept...), numbers)
	}
}

func TestTextsOfAnswersAreApart(t *testing.T) {
	line := "one text"
	tb := lock.New(1)
	handed := []api.Range{from(line[:1], line[:2]), from(line[:3], line[:4]), from(line[:5], line)}
	for _, id := range []int{1, 2} {
		for _, r := range handed {
			checkTake(t, tb, id, r, api.OK)
		}
	}
	answers := append(handed[:1:1], tb.Ranges(1)...)
	answers = append(answers, tb.Ranges(1)...)
	answers = append(answers, tb.Ranges(2)...)
	// Of the line all that is handed in has the beginning: it stands in one place.
	at := map[*byte]int{unsafe.StringData(line): 0}
	for i, r := range answers[1:] {
		at[unsafe.StringData(r.Lo)] = i
		at[unsafe.StringData(r.Hi)] = i
	}
	if want := 1 + 2*9; len(at) != want {
		t.Errorf("texts stand in %d places of memory, not %d", len(at), want)
	}
}

// heap is how much memory is in use.
func heap() int {
	runtime.GC()
	var m runtime.MemStats
	runtime.ReadMemStats(&m)
	return int(m.HeapAlloc)
}

// What is kept is no more than what the locks that are there have.
func TestWhatIsGoneIsNotKept(t *testing.T) {
	const many, long = 100, 1 << 20
	for i, goes := range []func(tb *lock.Table){
		func(tb *lock.Table) { tb.Tick() },
		func(tb *lock.Table) { tb.Lose(from("", "b")) },
		func(tb *lock.Table) {
			for id := range many {
				tb.Free(id + 1)
			}
		},
		func(tb *lock.Table) {
			for id := range many {
				tb.Take(id+1, from("", "b"))
			}
		},
	} {
		tb := lock.New(1)
		before := heap()
		for id := range many {
			checkTake(t, tb, id+1, from("a", "a"+strings.Repeat("k", long)), api.OK)
		}
		goes(tb)
		if more := heap() - before; more > many*long/2 {
			t.Errorf("way %d: a table keeps %d bytes", i, more)
		}
		runtime.KeepAlive(tb)
	}
}

func TestWhatIsTakenAgainIsKeptOnce(t *testing.T) {
	tb := lock.New(1)
	r := from(strings.Repeat("k", 1<<10), "l")
	before := heap()
	for range 20000 {
		checkTake(t, tb, 1, r, api.OK)
	}
	if more := heap() - before; more > 1<<20 {
		t.Errorf("a lock on one range keeps %d bytes", more)
	}
	checkTable(t, tb, locks{1: {r}})
}
