package engine_test

import (
	"bytes"
	"fmt"
	"maps"
	"math"
	"slices"
	"testing"

	"shelfmark/api"
	"shelfmark/engine"
	"shelfmark/sample"
)

// both is an engine, and a table to which is done what is done to it.
type both struct {
	e     *engine.Engine
	m     table
	limit int
	// Which keys were put since a run was last allowed to come without more keys than the limit, and how many runs there were then.
	put  table
	runs int
}

func (b *both) begin() {
	b.put, b.runs = table{}, b.e.Runs()
}

// reading is a cursor, and what it still has to tell.
type reading struct {
	c    *engine.Cursor
	left []api.Pair
}

// walk is some engines, and cursors over them.
type walk struct {
	t        *testing.T
	dice     sample.Dice
	engines  []*both
	readings []*reading
}

func begin(t *testing.T, seed int) *walk {
	w := &walk{t: t, dice: sample.Dice(seed)}
	for range 3 {
		w.fresh()
	}
	return w
}

// add takes an engine up, in another one's place if there are many.
func (w *walk) add(e *engine.Engine, m table, limit int) {
	b := &both{e: e, m: m, limit: max(limit, 1)}
	b.begin()
	if len(w.engines) < 6 {
		w.engines = append(w.engines, b)
	} else {
		w.engines[w.dice.Below(6)] = b
	}
}

func (w *walk) pick() *both {
	return sample.Pick(&w.dice, w.engines)
}

func (w *walk) text() string {
	return sample.Pick(&w.dice, sample.Edges())
}

func (w *walk) number() int {
	return sample.Pick(&w.dice, []int{math.MinInt, -1, 0, 1, 2, 4, 9, 50, math.MaxInt})
}

func (w *walk) fresh() {
	limit := w.number()
	w.add(engine.New(limit), table{}, limit)
}

func (w *walk) put() {
	b := w.pick()
	batch := thrown(&w.dice, sample.Pick(&w.dice, []int{1, 1, 3, 30}))
	b.e.Put(batch)
	b.m.put(batch)
	for _, c := range batch {
		b.put[c.Key] = ""
	}
}

func (w *walk) ask() {
	b, key := w.pick(), w.text()
	checkGet(w.t, b.e, b.m, key)
	r, n := api.Range{Lo: w.text(), Hi: w.text()}, w.number()
	want := b.m.pairs(r)
	checkPairs(w.t, fmt.Sprintf("Range(%.20q, %d)", r, n), b.e.Range(r, n), want[:min(max(n, 0), len(want))])
}

func (w *walk) open() {
	b, r := w.pick(), api.Range{Lo: w.text(), Hi: w.text()}
	if w.dice.Below(2) == 0 {
		r = api.Range{}
	}
	w.readings = append(w.readings, &reading{b.e.Cursor(r), b.m.pairs(r)})
	if len(w.readings) > 8 {
		w.readings = w.readings[1:]
	}
}

func (w *walk) read() {
	for _, x := range w.readings {
		if w.dice.Below(2) == 0 {
			continue
		}
		p, ok := x.c.Next()
		if len(x.left) == 0 {
			if p != (api.Pair{}) || ok {
				w.t.Errorf("Next behind the last pair = %q, %t", p, ok)
			}
			continue
		}
		if p != x.left[0] || !ok {
			w.t.Errorf("Next = %q, %t, not %q", p, ok, x.left[0])
		}
		x.left = x.left[1:]
	}
}

func (w *walk) compact() {
	b := w.pick()
	b.e.Compact()
	checkRuns(w.t, "Compact", b.e, min(len(b.m), 1), len(b.m))
	b.begin()
}

func (w *walk) bring() {
	b, limit := w.pick(), w.number()
	e, err := engine.Import(b.e.Export(), limit)
	checkErr(w.t, "Import", err, api.OK)
	if err == api.OK {
		w.add(e, maps.Clone(b.m), limit)
	}
}

func (w *walk) spoilt() {
	form := w.pick().e.Export()
	for range 1 + w.dice.Below(2) {
		form[w.dice.Below(len(form))] ^= sample.Pick(&w.dice, []byte{1, 0x80, 0xff})
	}
	e, err := engine.Import(form, w.number())
	if (e == nil) != (err != api.OK) {
		w.t.Errorf("Import(%x) = %v, %d", form, e, err)
	}
	// What is taken for pairs has that form, and no other.
	if e != nil && !bytes.Equal(e.Export(), form) {
		w.t.Errorf("%x was taken for %x", form, e.Export())
	}
}

func (w *walk) cut() {
	b, at := w.pick(), w.text()
	low, high := b.e.Cut(at)
	below, above := table{}, table{}
	for key, val := range b.m {
		if key < at {
			below[key] = val
		} else {
			above[key] = val
		}
	}
	w.add(low, below, b.limit)
	w.add(high, above, b.limit)
}

func (w *walk) join() {
	a, b := w.pick(), w.pick()
	want := api.OK
	for key := range a.m {
		for other := range b.m {
			if other <= key {
				want = api.ErrPlan
			}
		}
	}
	e, err := engine.Join(a.e, b.e)
	checkErr(w.t, "Join", err, want)
	if (e == nil) != (err != api.OK) {
		w.t.Errorf("Join = %v, %d", e, err)
	}
	if e != nil {
		m := maps.Clone(a.m)
		maps.Copy(m, b.m)
		w.add(e, m, a.limit)
	}
}

// step does, by dice, one of the things that can be done.
func (w *walk) step() {
	switch n := w.dice.Below(100); {
	case n < 45:
		w.put()
	case n < 55:
		w.ask()
	case n < 62:
		w.open()
	case n < 82:
		w.read()
	case n < 86:
		w.compact()
	case n < 89:
		w.bring()
	case n < 91:
		w.spoilt()
	case n < 95:
		w.cut()
	case n < 99:
		w.join()
	default:
		w.fresh()
	}
}

// look asks all engines for what they tell of their pairs and runs.
func (w *walk) look() {
	for i, b := range w.engines {
		checkHas(w.t, fmt.Sprintf("engine %d", i), b.e, b.m)
		runs, held := b.e.Runs(), b.e.Held()
		if len(b.put) <= b.limit && runs > b.runs {
			w.t.Errorf("engine %d: %d keys were put, limit %d, and %d runs became %d", i, len(b.put), b.limit, b.runs, runs)
		}
		if runs == 0 && held > b.limit {
			w.t.Errorf("engine %d: %d held in no run, limit %d", i, held, b.limit)
		}
	}
}

// tell is all that a walk's engines tell.
func (w *walk) tell() string {
	s := ""
	for _, b := range w.engines {
		s += fmt.Sprintf("%d %d %d %x ", b.e.Len(), b.e.Runs(), b.e.Held(), b.e.Export())
	}
	return s
}

// P10.1 to P10.5, and P1, R1 to R3, R5: whatever comes behind what, each call ends, and is as the chapter says.

func TestLongWalks(t *testing.T) {
	for seed := range 30 {
		w := begin(t, seed)
		for i := range 300 {
			w.step()
			w.look()
			if t.Failed() {
				t.Fatalf("walk %d, step %d", seed, i)
			}
		}
	}
}

// R8

func TestTheSameStepsComeToTheSame(t *testing.T) {
	for seed := range 10 {
		one, two := begin(t, seed), begin(t, seed)
		for range 300 {
			one.step()
			two.step()
		}
		if one.tell() != two.tell() {
			t.Errorf("walk %d: %.500s, and then %.500s", seed, one.tell(), two.tell())
		}
	}
}

// P1, R1: no size is too large.

func TestOfManyPairs(t *testing.T) {
	const n = 20000
	d := sample.Dice(5)
	m := table{}
	var batch []api.Change
	for range n {
		c := put(fmt.Sprintf("%06d", d.Below(2*n)), "v")
		c.Gone = d.Below(4) == 0
		batch = append(batch, c)
	}
	m.put(batch)
	for _, limit := range []int{math.MinInt, 8, 1000, math.MaxInt} {
		e := filled(limit, batch)
		checkHas(t, fmt.Sprintf("limit %d", limit), e, m)
		low, high := e.Cut("020000")
		checkHas(t, fmt.Sprintf("limit %d, joined", limit), joined(t, low, high), m)
	}
	// Piece by piece, as a scan that goes on and on asks for them.
	e, want, from := filled(8, batch), m.pairs(api.Range{}), ""
	for len(want) > 0 {
		piece := e.Range(api.Range{Lo: from}, 4)
		if !slices.Equal(piece, want[:min(4, len(want))]) {
			t.Fatalf("Range from %q on = %q", from, piece)
		}
		from, want = piece[len(piece)-1].Key+"\x00", want[len(piece):]
	}
}

func TestOfLongTexts(t *testing.T) {
	long := string(sample.Bytes(1 << 20))
	all := []api.Change{put(long, long), put(long[1:], ""), put("", long), gone(long[2:])}
	for _, limit := range []int{1, 9} {
		e := filled(limit, all)
		checkHas(t, fmt.Sprintf("limit %d", limit), e, tableOf(all))
		low, high := e.Cut(long)
		checkHas(t, fmt.Sprintf("limit %d, joined", limit), joined(t, low, high), tableOf(all))
		checkHas(t, fmt.Sprintf("limit %d, imported", limit), imported(t, e.Export(), limit), tableOf(all))
	}
}
