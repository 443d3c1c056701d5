package outbox_test

import (
	"fmt"
	"math"
	"testing"

	"shelfmark/api"
	"shelfmark/outbox"
	"shelfmark/sample"
)

// place is an outbox, for how many it is, and what has to wait in it.
type place struct {
	b    *outbox.Box
	most int
	want []api.Intent
}

// walk is some outboxes, of which now the one, now the other goes on.
type walk struct {
	t      *testing.T
	dice   sample.Dice
	places [3]place
	// What is added and asked for.
	entries, ats []string
	wrong        []api.Intent
}

func begin(t *testing.T, seed int) *walk {
	w := &walk{t: t, dice: sample.Dice(seed), entries: append(some(), entries()[:20]...), ats: borders(), wrong: badIntents()}
	for i := range w.places {
		most := sample.Pick(&w.dice, []int{-1, 3, 10, 40, 40, math.MaxInt})
		w.places[i] = place{outbox.New(most), most, nil}
	}
	return w
}

// place is one of the walk's, by dice.
func (w *walk) place() *place {
	return &w.places[w.dice.Below(len(w.places))]
}

// intent is one that dice throw: seldom one that isn't right.
func (w *walk) intent() api.Intent {
	if w.dice.Below(60) == 0 {
		return sample.Pick(&w.dice, w.wrong)
	}
	return intent(sample.Pick(&w.dice, w.entries), 1+w.dice.Below(3), w.dice.Below(2) == 0)
}

func (w *walk) intents() []api.Intent {
	var l []api.Intent
	for range w.dice.Below(6) {
		l = append(l, w.intent())
	}
	return l
}

// span is a range that dice throw: it may be empty.
func (w *walk) span() api.Range {
	return from(sample.Pick(&w.dice, w.entries), sample.Pick(&w.dice, append(w.entries, "", "\x00\x02")))
}

func (w *walk) add() {
	p, l := w.place(), w.intents()
	all, e := added(p.most, p.want, l)
	checkAdd(w.t, p.b, l, e)
	p.want = all
}

func (w *walk) done() {
	p, l := w.place(), w.intents()
	if w.dice.Below(2) == 0 {
		l = p.b.Due(w.dice.Below(5))
	}
	left := without(p.want, l)
	checkDone(w.t, p.b, l, len(p.want)-len(left))
	p.want = left
}

func (w *walk) drop() {
	p, r := w.place(), w.span()
	left := notIn(p.want, r)
	checkCount(w.t, fmt.Sprintf("Drop(%q)", r), p.b.Drop(r), len(p.want)-len(left))
	p.want = left
}

// cut puts the parts of a cut into other places, or into its own.
func (w *walk) cut() {
	p, at := *w.place(), sample.Pick(&w.dice, w.ats)
	one, two := p.b.Cut(at)
	low, high := parted(p.want, at)
	*w.place() = place{one, p.most, low}
	*w.place() = place{two, p.most, high}
}

func (w *walk) join() {
	a, b := *w.place(), *w.place()
	all, e := added(a.most, a.want, b.want)
	j, got := outbox.Join(a.b, b.b)
	if got != e || (j == nil) != (e != api.OK) {
		w.t.Fatalf("Join = %v, %d, not the error %d", j, got, e)
	}
	if e == api.OK {
		*w.place() = place{j, a.most, all}
	}
}

func (w *walk) look() {
	p, r := w.place(), w.span()
	checkList(w.t, fmt.Sprintf("Of(%q)", r), p.b.Of(r), in(p.want, r))
	checkList(w.t, "Latest", outbox.Latest(p.b.Due(len(p.want))), latest(p.want))
}

// step does, by dice, one of the things that can be done.
func (w *walk) step() {
	w.t.Helper()
	switch n := w.dice.Below(100); {
	case n < 55:
		w.add()
	case n < 72:
		w.done()
	case n < 77:
		w.drop()
	case n < 82:
		w.cut()
	case n < 88:
		w.join()
	default:
		w.look()
	}
}

// tell is all that the walk's outboxes tell.
func (w *walk) tell() string {
	s := ""
	for _, p := range w.places {
		due := p.b.Due(math.MaxInt)
		s += fmt.Sprint(p.b.Len(), p.b.Room(), due, outbox.Latest(due), p.b.Of(from("\x00\x01", "\x00\x02")))
	}
	return s
}

// P1, P18.1 to P18.4, R1 to R3, R5: whatever comes behind what, each call ends, and is as the chapter says.

func TestLongWalks(t *testing.T) {
	for seed := range 40 {
		w := begin(t, seed)
		for i := range 100 {
			w.step()
			for _, p := range w.places {
				checkBox(t, p.b, p.most, p.want)
			}
			if t.Failed() {
				t.Fatalf("walk %d, step %d", seed, i)
			}
		}
	}
}

// R8

func TestTheSameStepsComeToTheSame(t *testing.T) {
	for seed := range 30 {
		one, two := begin(t, seed), begin(t, seed)
		for range 150 {
			one.step()
			two.step()
		}
		told := one.tell()
		if told != two.tell() || told != one.tell() {
			t.Errorf("walk %d: %.500q, and then %.500q", seed, told, two.tell())
		}
	}
}

// P1, R1

func TestAnyArgument(t *testing.T) {
	d := sample.Dice(18)
	texts := append(append(sample.Edges(), badEntries()...), append(some(), string(sample.Bytes(300)), string(sample.Bytes(1<<16)))...)
	numbers := append(append(badVersions(), versions()...), mosts()...)
	any := func() []api.Intent {
		var l []api.Intent
		for range d.Below(4) {
			l = append(l, intent(sample.Pick(&d, texts), sample.Pick(&d, numbers), d.Below(2) == 0))
		}
		return l
	}
	for _, most := range mosts() {
		b, want := outbox.New(most), []api.Intent(nil)
		for range 300 {
			l := any()
			all, e := added(most, want, l)
			checkAdd(t, b, l, e)
			done := any()
			want = without(all, done)
			checkDone(t, b, done, len(all)-len(want))
			n, r := sample.Pick(&d, numbers), from(sample.Pick(&d, texts), sample.Pick(&d, texts))
			checkList(t, fmt.Sprintf("Due(%d)", n), b.Due(n), want[:min(max(n, 0), len(want))])
			checkList(t, fmt.Sprintf("Of(%.100q)", r), b.Of(r), in(want, r))
			checkList(t, "Latest of "+name(l...), outbox.Latest(l), latest(l))
			low, high := b.Cut(r.Lo)
			checkCount(t, "Len of what was cut", low.Len()+high.Len(), len(want))
		}
		checkBox(t, b, most, want)
	}
}
