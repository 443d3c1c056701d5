package net_test

import (
	"slices"
	"testing"
	"unsafe"

	"shelfmark/api"
	"shelfmark/net"
	"shelfmark/sample"
)

// spoil writes over an answer, and grows it.
func spoil(l api.Letter) {
	sample.SpoilLetter(l)
	_ = append(l.Pairs, api.Pair{Key: "spoilt"})
	_ = append(l.Intents, api.Intent{Entry: "spoilt"})
}

// doubled is a net in which letters were sent, and then doubled, in their order.
func doubled(t *testing.T, l ...api.Letter) *net.Net {
	t.Helper()
	n, _ := sendAll(t, l...)
	for i := range l {
		checkTwice(t, n, i+1, len(l)+i+1, api.OK)
	}
	return n
}

// P14.4, R4

func TestWhatIsHandedInStays(t *testing.T) {
	all := letters()
	for _, f := range badLetters() {
		all = append(all, f.l)
	}
	for _, inside := range all {
		l, check := sample.LetterInRoom(t, inside)
		n := net.New()
		n.Send(l)
		n.Twice(1)
		looked, _ := n.Look(1)
		spoil(looked)
		delivered, _ := n.Deliver(1)
		spoil(delivered)
		check()
	}
}

func TestWhatIsHandedInIsNotKept(t *testing.T) {
	for _, inside := range letters() {
		l := inside
		l.Pairs, l.Intents = slices.Clone(l.Pairs), slices.Clone(l.Intents)
		n := doubled(t, l)
		sample.SpoilLetter(l)
		checkUnder(t, n, sent{1, inside}, sent{2, inside})
		checkDeliver(t, n, 2, inside, api.OK)
		checkDeliver(t, n, 1, inside, api.OK)
	}
}

func TestTextsAreNotKept(t *testing.T) {
	b := []byte("one line of one text.")
	want := sample.LetterOf(string(b))
	n := doubled(t, sample.LetterOf(unsafe.String(&b[0], len(b))))
	sample.Spoil(b)
	checkUnder(t, n, sent{1, want}, sent{2, want})
	checkDeliver(t, n, 1, want, api.OK)
	checkDeliver(t, n, 2, want, api.OK)
}

// What lies behind the lengths of a letter's lists is none of it.
func TestWhatLiesBehindTheLengthIsNotRead(t *testing.T) {
	for _, inside := range letters() {
		l, _ := sample.LetterInRoom(t, inside)
		n := doubled(t, l)
		checkUnder(t, n, sent{1, inside}, sent{2, inside})
	}
	for _, f := range badLetters() {
		l, _ := sample.LetterInRoom(t, f.l)
		checkSend(t, net.New(), l, 0, f.e)
	}
}

func TestWhatIsLookedAtIsNew(t *testing.T) {
	for _, l := range letters() {
		n := doubled(t, l)
		one, _ := n.Look(1)
		two, _ := n.Look(1)
		double, _ := n.Look(2)
		spoil(one)
		spoil(double)
		checkUnder(t, n, sent{1, l}, sent{2, l})
		checkSend(t, n, two, 3, api.OK)
		checkUnder(t, n, sent{1, l}, sent{2, l}, sent{3, l})
		checkDeliver(t, n, 1, l, api.OK)
	}
}

func TestWhatIsDeliveredIsNew(t *testing.T) {
	for _, l := range letters() {
		// A letter, its double, and the double's double: whichever comes first.
		for first := 1; first <= 3; first++ {
			n := doubled(t, l)
			checkTwice(t, n, 2, 3, api.OK)
			looked, _ := n.Look(first)
			got, _ := n.Deliver(first)
			spoil(got)
			checkUnder(t, n, without([]sent{{1, l}, {2, l}, {3, l}}, first)...)
			checkSend(t, n, looked, 4, api.OK)
			checkDeliver(t, n, 4, l, api.OK)
		}
	}
}

func TestTextsOfAnswersAreNew(t *testing.T) {
	l := sample.LetterOf("one line of one text.")
	n := doubled(t, l, l)
	all := sample.Texts(l)
	for number := 1; number <= 4; number++ {
		one, _ := n.Look(number)
		two, _ := n.Look(number)
		three, _ := n.Deliver(number)
		all = slices.Concat(all, sample.Texts(one), sample.Texts(two), sample.Texts(three))
	}
	at := map[*byte]int{}
	for i, s := range all {
		at[unsafe.StringData(s)] = i
	}
	if len(at) != len(all) {
		t.Errorf("%d texts stand in %d places of memory", len(all), len(at))
	}
}

func TestNumbersOfAnswersAreNew(t *testing.T) {
	l := letters()
	n := doubled(t, l...)
	one, two := n.Under(), n.Under()
	sample.Overwrite(one, -1)
	_ = append(one[:1], -1)
	if len(two) != 2*len(l) || !slices.Equal(two, n.Under()) {
		t.Errorf("another answer is %d", two)
	}
	for i, x := range l {
		checkDeliver(t, n, i+1, x, api.OK)
		checkDeliver(t, n, len(l)+i+1, x, api.OK)
	}
	// An answer stays as it was, whatever goes on behind it.
	if len(two) != 2*len(l) || two[0] != 1 || two[len(two)-1] != len(two) {
		t.Errorf("an answer became %d", two)
	}
}

// R3

func TestNilAndNoElementsAreTheSame(t *testing.T) {
	for _, l := range letters() {
		none := l
		if len(l.Pairs) == 0 {
			none.Pairs = []api.Pair{}
		}
		if len(l.Intents) == 0 {
			none.Intents = []api.Intent{}
		}
		n := doubled(t, l, none)
		checkUnder(t, n, sent{1, l}, sent{2, l}, sent{3, l}, sent{4, l})
	}
}
