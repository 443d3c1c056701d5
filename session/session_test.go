package session_test

import (
	"math"
	"slices"
	"testing"

	"shelfmark/api"
	"shelfmark/session"
)

// P15.1

func TestANewEndSentAndTookNothing(t *testing.T) {
	e := session.New()
	checkEnd(t, e, state{})
	for _, n := range append(farNumbers(), 1, 2) {
		checkPost(t, e, n, state{})
		checkAcked(t, e, n, 0)
	}
	checkEnd(t, e, state{})
}

func TestEndsAreApart(t *testing.T) {
	one, two := session.New(), session.New()
	checkSend(t, one, "a", 1, api.OK)
	checkTake(t, one, 1, "b", true)
	checkEnd(t, two, state{})
	checkSend(t, two, "c", 1, api.OK)
	checkAcked(t, one, 1, 1)
	checkEnd(t, one, state{mark: 1, sent: 1})
	checkEnd(t, two, state{sent: 1, waits: []string{"c"}})
}

func TestTextsAreNumberedAndWait(t *testing.T) {
	e := session.New()
	var want state
	for _, body := range append(bodies(), bodies()...) {
		want.sent++
		want.waits = append(want.waits, body)
		checkSend(t, e, body, want.sent, api.OK)
		checkEnd(t, e, want)
	}
}

// What is refused takes no number.
func TestSendOfTextsThatAreTooLong(t *testing.T) {
	e := session.New()
	var want state
	for _, body := range tooLong() {
		checkSend(t, e, body, 0, api.ErrLarge)
		checkEnd(t, e, want)
		want.sent++
		want.waits = append(want.waits, "a")
		checkSend(t, e, "a", want.sent, api.OK)
	}
	checkEnd(t, e, want)
}

// It is named first that a text is too long.
func TestTooLongIsNamedAheadOfTooMany(t *testing.T) {
	for _, s := range []state{{sent: mostWaiting, waits: named(mostWaiting)}, {sent: mostNumber}, {sent: mostNumber, waits: named(mostWaiting)}} {
		e := load(t, s)
		for _, body := range tooLong() {
			checkSend(t, e, body, 0, api.ErrLarge)
		}
		for _, body := range bodies() {
			checkSend(t, e, body, 0, api.ErrMany)
		}
		checkEnd(t, e, s)
	}
}

func TestAtMostMaxItemsWait(t *testing.T) {
	e := session.New()
	var want state
	for _, body := range named(mostWaiting) {
		want.sent++
		want.waits = append(want.waits, body)
		checkSend(t, e, body, want.sent, api.OK)
	}
	checkSend(t, e, "one more", 0, api.ErrMany)
	checkEnd(t, e, want)
	for n := 1; n <= 3; n++ {
		checkAcked(t, e, want.sent-mostWaiting+n, n)
		want.waits = want.waits[n:]
		for range n {
			want.sent++
			want.waits = append(want.waits, "again")
			checkSend(t, e, "again", want.sent, api.OK)
		}
		checkSend(t, e, "one more", 0, api.ErrMany)
		checkEnd(t, e, want)
	}
}

func TestNumbersGoOnBehindManyTexts(t *testing.T) {
	e := session.New()
	for i := range 20 * mostWaiting {
		checkSend(t, e, "a", i+1, api.OK)
		if i%100 == 99 {
			checkAcked(t, e, i+1, 100)
		}
	}
	checkEnd(t, e, state{sent: 20 * mostWaiting, waits: slices.Repeat([]string{"a"}, 20)})
}

func TestAtMostMaxNumberAreSent(t *testing.T) {
	e := load(t, state{sent: mostNumber - 3, waits: []string{"x"}})
	checkSend(t, e, "a", mostNumber-2, api.OK)
	checkSend(t, e, "b", mostNumber-1, api.OK)
	checkSend(t, e, "c", mostNumber, api.OK)
	checkSend(t, e, "d", 0, api.ErrMany)
	checkEnd(t, e, state{sent: mostNumber, waits: []string{"x", "a", "b", "c"}})
	checkAcked(t, e, mostNumber, 4)
	checkSend(t, e, "", 0, api.ErrMany)
	checkEnd(t, e, state{sent: mostNumber})
}

func TestPostIsTheFirstThatWait(t *testing.T) {
	for _, s := range states() {
		e := load(t, s)
		n := len(s.waits)
		for _, most := range append(farNumbers(), 1, 2, 3, n-2, n-1, n, n+1, mostWaiting, mostWaiting+1) {
			checkPost(t, e, most, s)
		}
		// They go on waiting.
		checkEnd(t, e, s)
	}
}

func TestPostBehindWhatIsAcknowledged(t *testing.T) {
	all := named(20)
	e := load(t, state{sent: 20, waits: all})
	for mark := 1; mark <= 20; mark++ {
		checkAcked(t, e, mark, 1)
		want := state{sent: 20, waits: all[mark:]}
		for n := -1; n <= 21; n++ {
			checkPost(t, e, n, want)
		}
		checkEnd(t, e, want)
	}
}

// P15.2

func TestTextsAreTakenInOrder(t *testing.T) {
	e := session.New()
	number := 0
	// Of whatever text: how long it may be is asked where it is sent.
	for _, body := range slices.Concat(bodies(), tooLong(), bodies()) {
		for _, other := range append(farNumbers(), 1, number-1, number, number+2, number+3, number+1+1<<32) {
			if other != number+1 {
				checkTake(t, e, other, body, false)
			}
		}
		checkEnd(t, e, state{mark: number})
		number++
		checkTake(t, e, number, body, true)
		checkTake(t, e, number, body, false)
		checkEnd(t, e, state{mark: number})
	}
}

func TestTakeUpToMaxNumber(t *testing.T) {
	e := load(t, state{mark: mostNumber - 2})
	checkTake(t, e, mostNumber, "a", false)
	checkTake(t, e, mostNumber-1, "a", true)
	checkTake(t, e, mostNumber+1, "a", false)
	checkTake(t, e, mostNumber, "a", true)
	for _, number := range append(farNumbers(), 1, mostNumber-1, mostNumber) {
		checkTake(t, e, number, "a", false)
	}
	checkEnd(t, e, state{mark: mostNumber})
}

func TestWhatIsTakenAndWhatIsSentAreApart(t *testing.T) {
	e := load(t, state{mark: 5, sent: 9, waits: []string{"h", "i"}})
	checkTake(t, e, 10, "x", false)
	checkTake(t, e, 6, "x", true)
	checkEnd(t, e, state{mark: 6, sent: 9, waits: []string{"h", "i"}})
	checkAcked(t, e, 6, 0)
	checkAcked(t, e, 8, 1)
	checkEnd(t, e, state{mark: 6, sent: 9, waits: []string{"i"}})
	checkSend(t, e, "j", 10, api.OK)
	checkTake(t, e, 7, "x", true)
	checkEnd(t, e, state{mark: 7, sent: 10, waits: []string{"i", "j"}})
}

// ackedOf is what Acked has to answer, and which texts wait then: told number by number.
func ackedOf(s state, mark int) (int, []string) {
	var left []string
	for _, i := range s.items() {
		if i.Number > mark || mark > s.sent {
			left = append(left, i.Body)
		}
	}
	return len(s.waits) - len(left), left
}

func TestAckedLetsTextsWaitNoMore(t *testing.T) {
	for _, s := range states() {
		n := len(s.waits)
		for _, mark := range append(farNumbers(), 1, 2, 3, s.sent-n-1, s.sent-n, s.sent-n+1, s.sent-n/2, s.sent-1, s.sent, s.sent+1, s.sent+2) {
			e := load(t, s)
			want, left := ackedOf(s, mark)
			checkAcked(t, e, mark, want)
			checkEnd(t, e, state{s.mark, s.sent, left})
			// A second time it tells nothing new.
			checkAcked(t, e, mark, 0)
			checkEnd(t, e, state{s.mark, s.sent, left})
		}
	}
}

func TestAckedOfAllSmallEnds(t *testing.T) {
	for sent := range 7 {
		for n := range sent + 1 {
			for mark := -2; mark <= 9; mark++ {
				s := state{mark: 4, sent: sent, waits: named(n)}
				e := load(t, s)
				want, left := ackedOf(s, mark)
				checkAcked(t, e, mark, want)
				checkEnd(t, e, state{4, sent, left})
			}
		}
	}
}

// A mark that was never sent lets nothing go, though texts below it wait.
func TestAckedOfWhatWasNeverSent(t *testing.T) {
	s := state{sent: 3, waits: []string{"a", "b", "c"}}
	e := load(t, s)
	for _, mark := range []int{4, 5, 300, mostNumber, mostNumber + 1, math.MaxInt} {
		checkAcked(t, e, mark, 0)
		checkEnd(t, e, s)
	}
	checkAcked(t, e, 3, 3)
	checkEnd(t, e, state{sent: 3})
}

func TestTheExampleOfTheChapter(t *testing.T) {
	e, other := session.New(), session.New()
	checkSend(t, e, "a", 1, api.OK)
	checkSend(t, e, "b", 2, api.OK)
	if got := e.Post(1); !slices.Equal(got, []session.Item{{Number: 1, Body: "a"}}) {
		t.Errorf("Post(1) = %v", got)
	}
	checkTake(t, other, 2, "b", false)
	checkTake(t, other, 1, "a", true)
	checkTake(t, other, 1, "a", false)
	checkEnd(t, other, state{mark: 1})
	checkAcked(t, e, 1, 1)
	if got := e.Waiting(); got != 1 {
		t.Errorf("Waiting = %d", got)
	}
	checkAcked(t, e, 3, 0)
	if got := e.Save(); got != "\x00\x02\x01\x01b" {
		t.Errorf("Save = %x", got)
	}
}
