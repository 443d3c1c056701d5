package session_test

import (
	"fmt"
	"testing"

	"shelfmark/api"
	"shelfmark/sample"
	"shelfmark/session"
)

// walk is an end, and what it has to be.
type walk struct {
	t    *testing.T
	dice sample.Dice
	e    *session.End
	want state
	// What is sent.
	right, long []string
}

func begin(t *testing.T, seed int, s state) *walk {
	return &walk{t: t, dice: sample.Dice(seed), e: load(t, s), want: s, right: append(named(20), "", "\x00"), long: tooLong()}
}

// begins are states of ends that are new, nearly full, or nearly at their last number.
func begins() []state {
	return []state{{}, {}, {mark: 7, sent: 250, waits: named(250)}, {mostNumber - 20, mostNumber - 20, named(4)}, {mostNumber, mostNumber, named(9)}, {mostNumber - 5, 300, named(mostWaiting)}}
}

// about is a number about another one, or one that no text ever has.
func (w *walk) about(n int) int {
	if w.dice.Below(8) == 0 {
		return sample.Pick(&w.dice, farNumbers())
	}
	return n + w.dice.Below(7) - 3
}

// body is a text that is sent, and whether it may be.
func (w *walk) body() (string, bool) {
	if w.dice.Below(10) == 0 {
		return sample.Pick(&w.dice, w.long), false
	}
	return sample.Pick(&w.dice, w.right), true
}

func (w *walk) send() {
	body, ok := w.body()
	if !ok {
		checkSend(w.t, w.e, body, 0, api.ErrLarge)
		return
	}
	if len(w.want.waits) == mostWaiting || w.want.sent == mostNumber {
		checkSend(w.t, w.e, body, 0, api.ErrMany)
		return
	}
	w.want.sent++
	w.want.waits = append(w.want.waits, body)
	checkSend(w.t, w.e, body, w.want.sent, api.OK)
}

func (w *walk) take() {
	number := w.about(w.want.mark + 1)
	body, _ := w.body()
	ok := number == w.want.mark+1 && number <= mostNumber
	checkTake(w.t, w.e, number, body, ok)
	if ok {
		w.want.mark = number
	}
}

func (w *walk) acked() {
	mark := w.about(w.want.sent - w.dice.Below(len(w.want.waits)+1))
	n, left := ackedOf(w.want, mark)
	checkAcked(w.t, w.e, mark, n)
	w.want.waits = left
}

// again puts the end down, and takes it up.
func (w *walk) again() {
	e, err := session.Load(w.e.Save())
	if err != api.OK {
		w.t.Fatalf("Load of %s = %d", name(w.want), err)
	}
	w.e = e
}

// step does, by dice, one of the things that can be done.
func (w *walk) step() {
	w.t.Helper()
	switch n := w.dice.Below(100); {
	case n < 50:
		w.send()
	case n < 75:
		w.take()
	case n < 80:
		w.acked()
	case n < 85:
		w.again()
	default:
		checkPost(w.t, w.e, w.about(len(w.want.waits)), w.want)
	}
}

// P1, P15.1 to P15.3, R1 to R3, R5: whatever comes behind what, each call ends, and is as the chapter says.

func TestLongWalks(t *testing.T) {
	for seed := range 60 {
		for i, s := range begins() {
			w := begin(t, seed, s)
			for range 100 {
				w.step()
				checkEnd(t, w.e, w.want)
				if t.Failed() {
					t.Fatalf("walk %d from %d", seed, i)
				}
			}
		}
	}
}

// R8

func TestTheSameStepsComeToTheSame(t *testing.T) {
	for seed := range 10 {
		for _, s := range begins() {
			one, two := begin(t, seed, s), begin(t, seed, s)
			for range 100 {
				one.step()
				two.step()
			}
			told := fmt.Sprint(one.e.Save(), one.e.Post(mostWaiting), one.e.Mark(), one.e.Waiting())
			if told != fmt.Sprint(two.e.Save(), two.e.Post(mostWaiting), two.e.Mark(), two.e.Waiting()) {
				t.Errorf("walk %d comes to %s, and to something else", seed, name(told))
			}
		}
	}
}
