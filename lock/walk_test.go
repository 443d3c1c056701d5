package lock_test

import (
	"fmt"
	"math"
	"testing"

	"shelfmark/api"
	"shelfmark/lock"
	"shelfmark/sample"
)

// known is what a lock has to have, and when it was as new last.
type known struct {
	ranges []api.Range
	since  int
}

// walk is a table, and what has to be in it.
type walk struct {
	t          *testing.T
	dice       sample.Dice
	tb         *lock.Table
	lease, now int
	want       map[int]known
}

func begin(t *testing.T, seed, lease int) *walk {
	return &walk{t: t, dice: sample.Dice(seed), tb: lock.New(lease), lease: max(lease, 1), want: map[int]known{}}
}

// locks are those that have to be there.
func (w *walk) locks() locks {
	l := locks{}
	for id, k := range w.want {
		l[id] = k.ranges
	}
	return l
}

// id is a number of a few, or one that no lock has.
func (w *walk) id() int {
	if w.dice.Below(10) == 0 {
		return sample.Pick(&w.dice, append(badIds(), math.MaxInt))
	}
	return 1 + w.dice.Below(5)
}

// span is a range of one or the other kind: short ones, so that locks have several, and any.
func (w *walk) span() api.Range {
	if w.dice.Below(3) > 0 {
		text := func() string { return string([]byte{byte('a' + w.dice.Below(12))}) }
		lo := text()
		return from(lo, lo+text())
	}
	return sample.ThrownRange(&w.dice)
}

func (w *walk) take() {
	id, r := w.id(), w.span()
	if id < 1 || !sample.InRange(r, r.Lo) {
		checkTake(w.t, w.tb, id, r, api.ErrArg)
		return
	}
	checkTake(w.t, w.tb, id, r, api.OK)
	w.want[id] = known{append(sample.Least(w.want[id].ranges), r), w.now}
}

func (w *walk) renew() {
	id := w.id()
	k, ok := w.want[id]
	checkRenew(w.t, w.tb, id, ok)
	if ok {
		w.want[id] = known{k.ranges, w.now}
	}
}

func (w *walk) free() {
	id := w.id()
	_, ok := w.want[id]
	checkFree(w.t, w.tb, id, ok)
	delete(w.want, id)
}

func (w *walk) tick() {
	w.tb.Tick()
	w.now++
	for id, k := range w.want {
		if w.now-k.since >= w.lease {
			delete(w.want, id)
		}
	}
}

func (w *walk) lose() {
	r := w.span()
	w.tb.Lose(r)
	for id, k := range w.want {
		k.ranges = sample.Minus(k.ranges, r)
		w.want[id] = k
		if len(k.ranges) == 0 {
			delete(w.want, id)
		}
	}
}

// step does, by dice, one of the things that can be done.
func (w *walk) step() {
	w.t.Helper()
	switch n := w.dice.Below(100); {
	case n < 45:
		w.take()
	case n < 55:
		w.renew()
	case n < 60:
		w.free()
	case n < 80:
		w.tick()
	default:
		w.lose()
	}
}

// P1, P16.1 to P16.4, R1 to R3, R5: whatever comes behind what, each call ends, and is as the chapter says.

func TestLongWalks(t *testing.T) {
	for seed := range 30 {
		for _, lease := range []int{-1, 1, 2, 3, 8, 100, math.MaxInt} {
			w := begin(t, seed, lease)
			for range 60 {
				w.step()
				checkTable(t, w.tb, w.locks())
				if t.Failed() {
					t.Fatalf("walk %d with the lease %d", seed, lease)
				}
			}
		}
	}
}

// tell is all that a table tells of its locks.
func (w *walk) tell() string {
	s := fmt.Sprint(w.tb.Ids())
	for _, id := range w.tb.Ids() {
		s += fmt.Sprintf(" %q %t", w.tb.Ranges(id), w.tb.Holds(id, from("b", "c")))
	}
	for _, key := range sample.Edges() {
		s += fmt.Sprint(w.tb.Blocks(key))
	}
	return s
}

// R8

func TestTheSameStepsComeToTheSame(t *testing.T) {
	for seed := range 20 {
		one, two := begin(t, seed, 8), begin(t, seed, 8)
		for range 100 {
			one.step()
			two.step()
		}
		told := one.tell()
		if told != two.tell() || told != one.tell() {
			t.Errorf("walk %d: %.500s, and then %.500s", seed, told, two.tell())
		}
	}
}

// P1, R1

func TestAnyArgument(t *testing.T) {
	d := sample.Dice(16)
	texts := append(sample.Edges(), string(sample.Bytes(300)), string(sample.Bytes(1<<16)))
	numbers := append(append(badIds(), ids()...), 4, 6, 7)
	for _, lease := range numbers {
		tb := lock.New(lease)
		for range 400 {
			id, r := sample.Pick(&d, numbers), from(sample.Pick(&d, texts), sample.Pick(&d, texts))
			if want := id >= 1 && sample.InRange(r, r.Lo); (tb.Take(id, r) == api.OK) != want {
				t.Errorf("Take(%d, %s) isn't %t", id, name(r), want)
			}
			other := from(sample.Pick(&d, texts), sample.Pick(&d, texts))
			if got, want := tb.Holds(id, other), sample.Covers(tb.Ranges(id), other) && len(tb.Ranges(id)) > 0; got != want {
				t.Errorf("Holds(%d, %s) = %t", id, name(other), got)
			}
			switch d.Below(8) {
			case 0:
				tb.Tick()
			case 1:
				tb.Lose(other)
			case 2:
				tb.Free(sample.Pick(&d, numbers))
			case 3:
				tb.Renew(sample.Pick(&d, numbers))
			}
		}
	}
}
