package session_test

import (
	"fmt"
	"slices"
	"testing"

	"shelfmark/api"
	"shelfmark/sample"
	"shelfmark/session"
)

// word is what is under way to an end: a text under its number, or, if the number is 0, the other end's mark.
type word struct {
	to   int
	item session.Item
	mark int
}

// road is two ends, what was sent from and taken at each, and what is under way between them.
type road struct {
	t          *testing.T
	dice       sample.Dice
	ends       [2]*session.End
	sent, took [2][]string
	under      []word
}

func newRoad(t *testing.T, seed int) *road {
	return &road{t: t, dice: sample.Dice(seed), ends: [2]*session.End{session.New(), session.New()}}
}

// send lets an end send a text. Some texts are the same as earlier ones: their numbers alone tell them apart.
func (r *road) send(from int) {
	body := fmt.Sprint("from ", from, ": ", len(r.sent[from])/3)
	number, err := r.ends[from].Send(body)
	if err == api.ErrMany && r.ends[from].Waiting() == mostWaiting {
		return
	}
	r.sent[from] = append(r.sent[from], body)
	if number != len(r.sent[from]) || err != api.OK {
		r.t.Fatalf("Send = %d, %d", number, err)
	}
}

// post brings the first texts that wait at an end under way.
func (r *road) post(from, n int) {
	for _, item := range r.ends[from].Post(n) {
		r.under = append(r.under, word{to: 1 - from, item: item})
	}
}

// tell brings an end's mark under way.
func (r *road) tell(from int) {
	r.under = append(r.under, word{to: 1 - from, mark: r.ends[from].Mark()})
}

// lose takes the word at a place out of what is under way.
func (r *road) lose(i int) {
	r.under = slices.Delete(r.under, i, i+1)
}

// bring lets the word at a place come to its end.
func (r *road) bring(i int) {
	w := r.under[i]
	if w.item.Number == 0 {
		r.ends[w.to].Acked(w.mark)
	} else if r.ends[w.to].Take(w.item.Number, w.item.Body) {
		r.took[w.to] = append(r.took[w.to], w.item.Body)
	}
}

// bringAll brings all that is under way, turned about by dice or in its order.
func (r *road) bringAll(turned bool) {
	for len(r.under) > 0 {
		i := 0
		if turned {
			i = r.dice.Below(len(r.under))
		}
		r.bring(i)
		r.lose(i)
	}
}

// again puts an end down, and takes it up.
func (r *road) again(end int) {
	e, err := session.Load(r.ends[end].Save())
	if err != api.OK {
		r.t.Fatalf("Load = %d", err)
	}
	r.ends[end] = e
}

// step does, by dice, one of the things that can happen.
func (r *road) step() {
	end, n := r.dice.Below(2), r.dice.Below(100)
	switch {
	case n < 20:
		r.send(end)
	case n < 35:
		r.post(end, r.dice.Below(6))
	case n < 40:
		r.tell(end)
	case n < 43:
		r.again(end)
	case len(r.under) == 0:
	case n < 60:
		r.lose(r.dice.Below(len(r.under)))
	case n < 80:
		// It stays under way: it comes once more.
		r.bring(r.dice.Below(len(r.under)))
	default:
		i := r.dice.Below(len(r.under))
		r.bring(i)
		r.lose(i)
	}
}

// check asks that each end took a beginning of what the other one sent, and that no text is forgotten that wasn't taken.
func (r *road) check() {
	r.t.Helper()
	for from := range 2 {
		sent, took := r.sent[from], r.took[1-from]
		if len(took) > len(sent) || !slices.Equal(took, sent[:len(took)]) {
			r.t.Fatalf("end %d sent %s, and %s was taken", from, name(sent), name(took))
		}
		if got := r.ends[1-from].Mark(); got != len(took) {
			r.t.Fatalf("Mark = %d, not %d", got, len(took))
		}
		if got := r.ends[from].Waiting(); got < len(sent)-len(took) {
			r.t.Fatalf("%d of %d texts were taken, and %d wait", len(took), len(sent), got)
		}
	}
}

// checkAll asks that all that was sent was taken, and nothing waits.
func (r *road) checkAll() {
	r.t.Helper()
	r.check()
	for end := range 2 {
		if len(r.took[1-end]) != len(r.sent[end]) || r.ends[end].Waiting() != 0 {
			r.t.Fatalf("end %d sent %d texts, %d were taken, and %d wait", end, len(r.sent[end]), len(r.took[1-end]), r.ends[end].Waiting())
		}
	}
}

// end posts and brings at last all that waits, and the marks.
func (r *road) end() {
	r.under = nil
	r.post(0, mostWaiting)
	r.post(1, mostWaiting)
	r.bringAll(false)
	r.tell(0)
	r.tell(1)
	r.bringAll(true)
}

// P15.4

func TestTextsGoInOrderEachOnce(t *testing.T) {
	taken := 0
	for seed := range 200 {
		r := newRoad(t, seed)
		for range 1 + r.dice.Below(2000) {
			r.step()
			r.check()
		}
		taken += len(r.took[0]) + len(r.took[1])
		r.end()
		r.checkAll()
	}
	// Else the walks tell little.
	if taken < 1000 {
		t.Errorf("only %d texts were taken on the way", taken)
	}
}

// However the words are turned about: each round brings the first that waits, if no others.
func TestATurnedRoadComesToItsEnd(t *testing.T) {
	for seed := range 100 {
		r := newRoad(t, seed)
		for range 500 {
			r.step()
		}
		for rounds := 0; r.ends[0].Waiting()+r.ends[1].Waiting() > 0; rounds++ {
			if rounds > 2*mostWaiting {
				t.Fatalf("road %d doesn't end", seed)
			}
			for end := range 2 {
				r.post(end, 1+r.dice.Below(mostWaiting))
				r.tell(end)
				r.again(end)
			}
			r.bringAll(true)
			r.check()
		}
		r.checkAll()
	}
}

// A road that brings nothing fills up, and goes on when it brings again.
func TestARoadThatLosesAllLosesNoText(t *testing.T) {
	r := newRoad(t, 154)
	for range 2 * mostWaiting {
		r.send(0)
		r.post(0, 3)
		r.under = nil
	}
	r.check()
	if got := r.ends[0].Waiting(); got != mostWaiting {
		t.Errorf("Waiting = %d", got)
	}
	r.end()
	r.checkAll()
	r.send(0)
	r.send(1)
	r.end()
	r.checkAll()
	if got := len(r.took[1]); got != mostWaiting+1 {
		t.Errorf("%d texts were taken", got)
	}
}

// Marks and texts that come late, out of an earlier time, change nothing.
func TestLateWordsChangeNothing(t *testing.T) {
	r := newRoad(t, 155)
	var old []word
	for range 20 {
		r.send(0)
		r.send(1)
		r.post(0, mostWaiting)
		r.post(1, mostWaiting)
		r.tell(0)
		r.tell(1)
		old = append(old, r.under...)
		r.bringAll(false)
	}
	r.end()
	r.checkAll()
	saved := []string{r.ends[0].Save(), r.ends[1].Save()}
	r.under = slices.Concat(old, old)
	r.bringAll(true)
	r.checkAll()
	if r.ends[0].Save() != saved[0] || r.ends[1].Save() != saved[1] {
		t.Error("late words changed an end")
	}
}
