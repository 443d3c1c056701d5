package net_test

import (
	"fmt"
	"slices"
	"testing"

	"shelfmark/api"
	"shelfmark/net"
	"shelfmark/sample"
)

// walk is a net, and what has to be under way in it, by rising numbers.
type walk struct {
	t    *testing.T
	dice sample.Dice
	n    *net.Net
	want []sent
	last int
	// What is sent.
	right []api.Letter
	bad   []fault
}

func begin(t *testing.T, seed int) *walk {
	return &walk{t: t, dice: sample.Dice(seed), n: net.New(), right: letters(), bad: badLetters()}
}

// number is one of those that were given, of those under way more often, or one that wasn't.
func (w *walk) number() int {
	switch n := w.dice.Below(10); {
	case n < 7 && len(w.want) > 0:
		return sample.Pick(&w.dice, w.want).number
	case n < 9:
		return 1 + w.dice.Below(w.last+2)
	}
	return sample.Pick(&w.dice, farNumbers())
}

// find is the letter that has to be under way under a number.
func (w *walk) find(number int) (api.Letter, bool) {
	i := slices.IndexFunc(w.want, func(s sent) bool { return s.number == number })
	if i < 0 {
		return api.Letter{}, false
	}
	return w.want[i].l, true
}

// next is the number that the next letter has to have, and what it has to be refused with.
func (w *walk) next() (int, api.Errno) {
	if len(w.want) >= mostUnder {
		return 0, api.ErrMany
	}
	return w.last + 1, api.OK
}

// add is told that a letter has to be under way as well, if it is not refused.
func (w *walk) add(l api.Letter, e api.Errno) {
	if e == api.OK {
		w.last++
		w.want = append(w.want, sent{w.last, l})
	}
}

func (w *walk) send() {
	l := sample.Pick(&w.dice, w.right)
	if w.dice.Below(2) == 0 {
		l = numbered(w.dice.Below(1000))
	}
	number, e := w.next()
	if w.dice.Below(8) == 0 {
		f := sample.Pick(&w.dice, w.bad)
		l, number, e = f.l, 0, f.e
	}
	checkSend(w.t, w.n, l, number, e)
	w.add(l, e)
}

func (w *walk) deliver() {
	number, e := w.number(), api.OK
	l, ok := w.find(number)
	if !ok {
		e = api.ErrNone
	}
	checkDeliver(w.t, w.n, number, l, e)
	w.want = without(w.want, number)
}

func (w *walk) drop() {
	number, e := w.number(), api.OK
	if _, ok := w.find(number); !ok {
		e = api.ErrNone
	}
	checkDrop(w.t, w.n, number, e)
	w.want = without(w.want, number)
}

func (w *walk) twice() {
	of := w.number()
	number, e := w.next()
	l, ok := w.find(of)
	if !ok {
		number, e = 0, api.ErrNone
	}
	checkTwice(w.t, w.n, of, number, e)
	w.add(l, e)
}

func (w *walk) look() {
	number := w.number()
	l, ok := w.find(number)
	checkLook(w.t, w.n, number, l, ok)
}

// step does, by dice, one of the things that can be done.
func (w *walk) step() {
	w.t.Helper()
	switch n := w.dice.Below(100); {
	case n < 35:
		w.send()
	case n < 55:
		w.deliver()
	case n < 65:
		w.drop()
	case n < 85:
		w.twice()
	default:
		w.look()
	}
}

// tell is all that a net tells of what is under way.
func (w *walk) tell() string {
	s := fmt.Sprint(w.n.Len(), w.n.Under())
	for _, number := range w.n.Under() {
		l, ok := w.n.Look(number)
		s += fmt.Sprint(number, l, ok)
	}
	return s
}

// P1, P14.1 to P14.4, R1 to R3, R5: whatever comes behind what, each call ends, and is as the chapter says.

func TestLongWalks(t *testing.T) {
	for seed := range 100 {
		w := begin(t, seed)
		for i := range 200 {
			w.step()
			checkUnder(t, w.n, w.want...)
			if t.Failed() {
				t.Fatalf("walk %d, step %d", seed, i)
			}
		}
	}
}

// Where a net is nearly full, it is refused again and again.
func TestAWalkInAFullNet(t *testing.T) {
	w := begin(t, 144)
	w.n, w.want = full(t)
	w.last = mostUnder
	for i := range 2000 {
		w.step()
		if i%100 == 0 {
			checkUnder(t, w.n, w.want...)
		}
		if t.Failed() {
			t.Fatalf("step %d", i)
		}
	}
	checkUnder(t, w.n, w.want...)
}

// R8

func TestTheSameStepsComeToTheSame(t *testing.T) {
	for seed := range 10 {
		one, two := begin(t, seed), begin(t, seed)
		for range 100 {
			one.step()
			two.step()
		}
		told := one.tell()
		if told != two.tell() || told != one.tell() {
			t.Errorf("walk %d: %.500s, and then %.500s", seed, told, two.tell())
		}
	}
}
