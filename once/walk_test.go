package once_test

import (
	"fmt"
	"maps"
	"slices"
	"testing"

	"shelfmark/api"
	"shelfmark/once"
	"shelfmark/sample"
)

// place is a table, and what it has to remember.
type place struct {
	tb   *once.Table
	want state
}

// walk is some tables, of which now the one, now the other goes on.
type walk struct {
	t      *testing.T
	dice   sample.Dice
	places [3]place
	// What is kept.
	right, wrong []api.Reply
}

func begin(t *testing.T, seed int) *walk {
	w := &walk{t: t, dice: sample.Dice(seed), right: replies(), wrong: badReplies()}
	for i := range w.places {
		w.places[i] = place{once.New(), state{}}
	}
	return w
}

// client is one of a few, or one that none has.
func (w *walk) client() (int, bool) {
	if w.dice.Below(20) == 0 {
		return sample.Pick(&w.dice, badClients()), false
	}
	return sample.Pick(&w.dice, []int{0, 1, 2, mostNumber}), true
}

// number is one above or below a client's floor, or one that no request has.
func (w *walk) number(m memory) (int, bool) {
	if w.dice.Below(20) == 0 {
		return sample.Pick(&w.dice, badNumbers()), false
	}
	number := m.floor - 2 + w.dice.Below(14)
	return number, number >= 1 && number <= mostNumber
}

// place is one of the walk's, by dice.
func (w *walk) place() *place {
	return &w.places[w.dice.Below(len(w.places))]
}

// errorOf is what is wrong with a request whose numbers may be, as far as what is remembered tells.
func errorOf(m memory, number int) api.Errno {
	if number <= m.floor {
		return api.ErrOld
	}
	if _, ok := m.find(number); !ok {
		return api.ErrNone
	}
	return api.OK
}

func (w *walk) keep() {
	p := w.place()
	client, isClient := w.client()
	number, isNumber := w.number(p.want[client])
	if w.dice.Below(10) == 0 {
		checkKeep(w.t, p.tb, client, number, sample.Pick(&w.dice, w.wrong), api.ErrArg)
		return
	}
	reply := sample.Pick(&w.dice, w.right)
	if !isClient || !isNumber {
		checkKeep(w.t, p.tb, client, number, reply, api.ErrArg)
		return
	}
	switch e := errorOf(p.want[client], number); e {
	case api.OK:
		checkKeep(w.t, p.tb, client, number, reply, api.ErrThere)
	case api.ErrNone:
		checkKeep(w.t, p.tb, client, number, reply, api.OK)
		p.want[client] = p.want[client].with(number, reply)
	default:
		checkKeep(w.t, p.tb, client, number, reply, e)
	}
}

func (w *walk) look() {
	p := w.place()
	client, isClient := w.client()
	number, isNumber := w.number(p.want[client])
	if !isClient || !isNumber {
		checkLook(w.t, p.tb, client, number, api.Reply{}, api.ErrArg)
		return
	}
	reply, _ := p.want[client].find(number)
	checkLook(w.t, p.tb, client, number, reply, errorOf(p.want[client], number))
}

func (w *walk) join() {
	a, b := w.place(), w.place()
	*w.place() = place{once.Join(a.tb, b.tb), joinedStates(a.want, b.want)}
}

func (w *walk) copy() {
	from := w.place()
	*w.place() = place{from.tb.Copy(), maps.Clone(from.want)}
}

// again puts a table down, and takes it up.
func (w *walk) again() {
	p := w.place()
	p.tb = load(w.t, p.tb.Save())
}

// step does, by dice, one of the things that can be done.
func (w *walk) step() {
	w.t.Helper()
	switch n := w.dice.Below(100); {
	case n < 70:
		w.keep()
	case n < 85:
		w.look()
	case n < 90:
		w.join()
	case n < 93:
		w.copy()
	case n < 98:
		w.again()
	default:
		*w.place() = place{once.New(), state{}}
	}
}

// P1, P17.1 to P17.5, R1 to R3, R5: whatever comes behind what, each call ends, and is as the chapter says.

func TestLongWalks(t *testing.T) {
	floors := 0
	for seed := range 30 {
		w := begin(t, seed)
		for range 200 {
			w.step()
			for _, p := range w.places {
				checkSame(t, p.tb, p.want)
			}
			if t.Failed() {
				t.Fatalf("walk %d", seed)
			}
		}
		for _, p := range w.places {
			for _, m := range p.want {
				floors += min(m.floor, 1)
			}
		}
	}
	// Else the walks tell little.
	if floors < 50 {
		t.Errorf("only %d floors came to be", floors)
	}
}

// tell is all that the tables tell.
func (w *walk) tell() string {
	s := ""
	for _, p := range w.places {
		s += fmt.Sprintf("%q", p.tb.Save())
		for client := range 3 {
			s += fmt.Sprint(p.tb.Floor(client), p.tb.Known(client))
			for _, number := range p.tb.Known(client) {
				reply, e := p.tb.Look(client, number)
				s += fmt.Sprintf("%+v %d", reply, e)
			}
		}
	}
	return s
}

// R8

func TestTheSameStepsComeToTheSame(t *testing.T) {
	for seed := range 20 {
		one, two := begin(t, seed), begin(t, seed)
		for range 200 {
			one.step()
			two.step()
		}
		told := one.tell()
		if told != two.tell() || told != one.tell() {
			t.Errorf("walk %d: %.500s, and then %.500s", seed, told, two.tell())
		}
	}
}

// P1, R1

func TestAnyArgument(t *testing.T) {
	d := sample.Dice(17)
	all := slices.Concat(badNumbers(), numbers(), []int{5, 6, 7, 8, 9, 300})
	right, wrong := replies(), badReplies()
	for range 20 {
		tb, want := once.New(), state{}
		for range 400 {
			client, number := sample.Pick(&d, all), sample.Pick(&d, all)
			reply, e := sample.Pick(&d, wrong), api.ErrArg
			if d.Below(3) > 0 {
				reply, e = sample.Pick(&d, right), errorOf(want[client], number)
			}
			switch {
			case client < 0 || client > mostNumber || number < 1 || number > mostNumber:
				e = api.ErrArg
			case e == api.ErrNone:
				e = api.OK
				want[client] = want[client].with(number, reply)
			case e == api.OK:
				e = api.ErrThere
			}
			checkKeep(t, tb, client, number, reply, e)
		}
		checkSame(t, tb, want)
		for range 100 {
			b := sample.Bytes(d.Below(200))
			checkText(t, string(b))
		}
	}
}
