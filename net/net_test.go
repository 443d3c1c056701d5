package net_test

import (
	"slices"
	"testing"

	"shelfmark/api"
	"shelfmark/letter"
	"shelfmark/net"
	"shelfmark/sample"
)

// P14.1

func TestANewNetIsEmpty(t *testing.T) {
	n := net.New()
	checkUnder(t, n)
	for _, number := range append(farNumbers(), 1, 2) {
		checkNone(t, n, number)
	}
	checkUnder(t, n)
	checkSend(t, n, sample.Letter(), 1, api.OK)
}

func TestNetsAreApart(t *testing.T) {
	one, two := net.New(), net.New()
	checkSend(t, one, numbered(7), 1, api.OK)
	checkSend(t, one, numbered(8), 2, api.OK)
	checkUnder(t, two)
	checkSend(t, two, numbered(9), 1, api.OK)
	checkDrop(t, one, 1, api.OK)
	checkUnder(t, one, sent{2, numbered(8)})
	checkUnder(t, two, sent{1, numbered(9)})
}

func TestSendOfRightLetters(t *testing.T) {
	n := net.New()
	var want []sent
	for i, l := range letters() {
		checkSend(t, n, l, i+1, api.OK)
		want = append(want, sent{i + 1, l})
		checkUnder(t, n, want...)
	}
}

// What is refused takes no number.
func TestSendOfOtherLetters(t *testing.T) {
	n := net.New()
	var want []sent
	for i, f := range badLetters() {
		if got := letter.Check(f.l); got != f.e {
			t.Errorf("Check of %s = %d, not %d", name(f.l), got, f.e)
		}
		checkSend(t, n, f.l, 0, f.e)
		checkUnder(t, n, want...)
		checkSend(t, n, numbered(i), i+1, api.OK)
		want = append(want, sent{i + 1, numbered(i)})
	}
	checkUnder(t, n, want...)
}

func TestTheSameLetterMayBeSentAgain(t *testing.T) {
	n, want := sendAll(t, sample.Letter(), sample.Letter())
	checkUnder(t, n, want...)
	checkDeliver(t, n, 1, sample.Letter(), api.OK)
	checkUnder(t, n, sent{2, sample.Letter()})
}

func TestNoNumberComesTwice(t *testing.T) {
	n := net.New()
	checkSend(t, n, numbered(1), 1, api.OK)
	checkDeliver(t, n, 1, numbered(1), api.OK)
	checkSend(t, n, numbered(2), 2, api.OK)
	checkDrop(t, n, 2, api.OK)
	checkSend(t, n, numbered(3), 3, api.OK)
	checkTwice(t, n, 3, 4, api.OK)
	checkDrop(t, n, 4, api.OK)
	checkTwice(t, n, 3, 5, api.OK)
	checkDrop(t, n, 3, api.OK)
	checkDeliver(t, n, 5, numbered(3), api.OK)
	checkUnder(t, n)
	checkSend(t, n, numbered(6), 6, api.OK)
	checkUnder(t, n, sent{6, numbered(6)})
}

func TestNumbersGoOnBehindManyLetters(t *testing.T) {
	n := net.New()
	for i := 1; i <= 3*mostUnder; i++ {
		checkSend(t, n, numbered(i), i, api.OK)
		if i%2 == 0 {
			checkDrop(t, n, i, api.OK)
		} else {
			checkDeliver(t, n, i, numbered(i), api.OK)
		}
	}
	checkUnder(t, n)
}

func TestSendBeyondMaxNet(t *testing.T) {
	n, want := full(t)
	checkSend(t, n, sample.Letter(), 0, api.ErrMany)
	checkSend(t, n, api.Letter{}, 0, api.ErrMany)
	// What is wrong with a letter is named first.
	for _, f := range badLetters() {
		checkSend(t, n, f.l, 0, f.e)
	}
	checkUnder(t, n, want...)
	checkDrop(t, n, 7, api.OK)
	checkSend(t, n, numbered(5000), mostUnder+1, api.OK)
	checkSend(t, n, sample.Letter(), 0, api.ErrMany)
	checkDeliver(t, n, 1, numbered(1), api.OK)
	checkSend(t, n, numbered(5001), mostUnder+2, api.OK)
	checkSend(t, n, sample.Letter(), 0, api.ErrMany)
	want = append(without(without(want, 7), 1), sent{mostUnder + 1, numbered(5000)}, sent{mostUnder + 2, numbered(5001)})
	checkUnder(t, n, want...)
}

// P14.2

func TestDeliverBringsEachLetterOnce(t *testing.T) {
	n, want := sendAll(t, letters()...)
	// In an order that isn't that in which they were sent.
	for len(want) > 0 {
		s := want[len(want)*3/7]
		checkDeliver(t, n, s.number, s.l, api.OK)
		checkNone(t, n, s.number)
		want = without(want, s.number)
		checkUnder(t, n, want...)
	}
}

func TestDropLosesOneLetter(t *testing.T) {
	n, want := sendAll(t, letters()...)
	for len(want) > 0 {
		number := want[len(want)*5/7].number
		checkDrop(t, n, number, api.OK)
		checkNone(t, n, number)
		want = without(want, number)
		checkUnder(t, n, want...)
	}
}

func TestTwiceDoublesOneLetter(t *testing.T) {
	for _, l := range letters() {
		n, _ := sendAll(t, numbered(9), l)
		checkTwice(t, n, 2, 3, api.OK)
		checkUnder(t, n, sent{1, numbered(9)}, sent{2, l}, sent{3, l})
		// Of the double, and of the first one again.
		checkTwice(t, n, 3, 4, api.OK)
		checkTwice(t, n, 2, 5, api.OK)
		checkUnder(t, n, sent{1, numbered(9)}, sent{2, l}, sent{3, l}, sent{4, l}, sent{5, l})
		checkDeliver(t, n, 2, l, api.OK)
		checkTwice(t, n, 2, 0, api.ErrNone)
		checkDrop(t, n, 4, api.OK)
		checkUnder(t, n, sent{1, numbered(9)}, sent{3, l}, sent{5, l})
		checkDeliver(t, n, 5, l, api.OK)
		checkDeliver(t, n, 3, l, api.OK)
		checkUnder(t, n, sent{1, numbered(9)})
	}
}

func TestNumbersUnderWhichNoLetterIs(t *testing.T) {
	n, want := sendAll(t, numbered(1), numbered(2), numbered(3))
	for _, number := range append(farNumbers(), 4, 5, mostUnder, mostUnder+1) {
		checkNone(t, n, number)
		checkUnder(t, n, want...)
	}
	checkSend(t, n, numbered(4), 4, api.OK)
}

func TestTwiceBeyondMaxNet(t *testing.T) {
	n, want := full(t)
	for _, number := range []int{1, 2, mostUnder / 2, mostUnder} {
		checkTwice(t, n, number, 0, api.ErrMany)
	}
	// That there is none is named first.
	for _, number := range append(farNumbers(), mostUnder+1) {
		checkTwice(t, n, number, 0, api.ErrNone)
	}
	checkUnder(t, n, want...)
	checkDrop(t, n, 5, api.OK)
	checkTwice(t, n, 5, 0, api.ErrNone)
	checkTwice(t, n, 6, mostUnder+1, api.OK)
	checkTwice(t, n, 6, 0, api.ErrMany)
	checkSend(t, n, sample.Letter(), 0, api.ErrMany)
	checkUnder(t, n, append(without(want, 5), sent{mostUnder + 1, numbered(6)})...)
}

// Letters that were doubled count as others do.
func TestANetIsFilledByTwice(t *testing.T) {
	n, want := sendAll(t, sample.Letter())
	for i := 2; i <= mostUnder; i++ {
		checkTwice(t, n, i-1, i, api.OK)
		want = append(want, sent{i, sample.Letter()})
	}
	checkTwice(t, n, 1, 0, api.ErrMany)
	checkSend(t, n, sample.Letter(), 0, api.ErrMany)
	checkUnder(t, n, want...)
}

// P14.3

func TestUnderRises(t *testing.T) {
	n, want := full(t)
	checkUnder(t, n, want...)
	d := sample.Dice(143)
	for len(want) > 0 {
		for range min(len(want), 100) {
			i := d.Below(len(want))
			checkDrop(t, n, want[i].number, api.OK)
			want = slices.Delete(want, i, i+1)
		}
		checkUnder(t, n, want...)
	}
}

func TestLookTakesNothingOut(t *testing.T) {
	n, _ := sendAll(t, letters()...)
	for i, l := range letters() {
		checkLook(t, n, i+1, l, true)
		checkLook(t, n, i+1, l, true)
		checkDeliver(t, n, i+1, l, api.OK)
		checkLook(t, n, i+1, api.Letter{}, false)
	}
}

// The chapter's examples

func TestExamples(t *testing.T) {
	n, a, b := net.New(), api.Letter{S: "a"}, api.Letter{S: "b"}
	checkSend(t, n, a, 1, api.OK)
	checkSend(t, n, b, 2, api.OK)
	checkTwice(t, n, 1, 3, api.OK)
	checkDeliver(t, n, 1, a, api.OK)
	checkDeliver(t, n, 1, api.Letter{}, api.ErrNone)
	checkDrop(t, n, 2, api.OK)
	checkUnder(t, n, sent{3, a})
	checkDeliver(t, n, 3, a, api.OK)
	checkUnder(t, n)
}
