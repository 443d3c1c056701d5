package engine_test

import (
	"bytes"
	"fmt"
	"math"
	"slices"
	"testing"
	"unsafe"

	"shelfmark/api"
	"shelfmark/engine"
	"shelfmark/sample"
)

// behind are changes that lie behind a batch's length: were they read, they would be seen.
func behind() []api.Change {
	return []api.Change{put("a", "behind"), gone("b"), put("behind", "behind")}
}

// texts are a text whose bytes can be written over, and how that is done.
func texts(s string) (text string, write func()) {
	b := []byte(s)
	return unsafe.String(&b[0], len(b)), func() { clear(b) }
}

// P10.5, R4

func TestWhatIsHandedInStays(t *testing.T) {
	for _, inside := range append(sample.Lists(3, few()...), batches(21, 50, 9)...) {
		for _, limit := range []int{1, 2, 100} {
			batch, check := sample.InRoom(t, inside, behind()...)
			e := engine.New(limit)
			e.Put(batch)
			disturb(e)
			e.Put(batch)
			e.Compact()
			e.Range(api.Range{}, 9)
			check()
		}
		m := tableOf(inside)
		b, check := sample.InRoom(t, m.form(), 0xff, 0, 1)
		e := imported(t, b, 2)
		disturb(e)
		check()
	}
}

func TestABatchIsNotKept(t *testing.T) {
	for _, inside := range append(sample.Lists(3, few()...), batches(22, 50, 9)...) {
		m := tableOf(inside)
		for _, limit := range []int{1, 2, 100} {
			batch, _ := sample.InRoom(t, inside, behind()...)
			batch = slices.Clone(batch)
			e := engine.New(limit)
			e.Put(batch)
			sample.Overwrite(batch, put("spoilt", "spoilt"))
			checkHas(t, "the batch was written over", e, m)
			e.Compact()
			checkHas(t, "the batch was written over, compacted", e, m)
		}
	}
}

func TestWhatLiesBehindTheLengthIsNotRead(t *testing.T) {
	for _, inside := range sample.Lists(3, few()...) {
		batch, _ := sample.InRoom(t, inside, behind()...)
		checkHas(t, fmt.Sprintf("%+v", inside), filled(2, batch), tableOf(inside))
		m := tableOf(inside)
		b, _ := sample.InRoom(t, m.form(), 0, 0, 0)
		checkHas(t, "Import", imported(t, b, 2), m)
		if len(m) > 0 {
			e, err := engine.Import(b[:len(b)-1], 2)
			if e != nil || err != api.ErrShort {
				t.Errorf("Import of what lacks a byte = %v, %d", e, err)
			}
		}
	}
}

func TestTextsAreNotKept(t *testing.T) {
	for _, limit := range []int{1, 2, 100} {
		key, writeKey := texts("key")
		val, writeVal := texts("val")
		away, writeAway := texts("away")
		e := filled(limit, []api.Change{put("away", "1"), put("a", "2")})
		e.Put([]api.Change{put(key, val), gone(away), put("z", "3")})
		lo, writeLo := texts("b")
		hi, writeHi := texts("y")
		c := e.Cursor(api.Range{Lo: lo, Hi: hi})
		at, writeAt := texts("key")
		low, high := e.Cut(at)
		for _, write := range []func(){writeKey, writeVal, writeAway, writeLo, writeHi, writeAt} {
			write()
		}
		checkPairs(t, "the cursor", drain(c), []api.Pair{{Key: "key", Val: "val"}})
		checkHas(t, "the engine", e, table{"a": "2", "key": "val", "z": "3"})
		checkHas(t, "below", low, table{"a": "2"})
		checkHas(t, "above", high, table{"key": "val", "z": "3"})
	}
}

func TestImportedBytesAreNotKept(t *testing.T) {
	for seed := range 10 {
		m := tableOf(batches(700+seed, 9, 9)...)
		b := m.form()
		e := imported(t, b, 2)
		sample.Spoil(b)
		checkHas(t, "the bytes were written over", e, m)
	}
}

func TestWhatIsAnsweredIsNew(t *testing.T) {
	all := batches(23, 20, 8)
	m := tableOf(all...)
	want := m.pairs(api.Range{})
	for name, e := range built(t, all...) {
		one, two, part := e.Range(api.Range{}, math.MaxInt), e.Range(api.Range{}, len(want)), e.Range(api.Range{Lo: "a"}, 3)
		c := e.Cursor(api.Range{})
		sample.Overwrite(one, api.Pair{Key: "spoilt", Val: "spoilt"})
		sample.Overwrite(part, api.Pair{Key: "spoilt", Val: "spoilt"})
		checkPairs(t, name+": another answer", two, want)
		checkPairs(t, name+": a cursor", drain(c), want)
		b, other := e.Export(), e.Export()
		sample.Spoil(b)
		_ = append(b, 0)
		if !bytes.Equal(other, m.form()) {
			t.Errorf("%s: another Export became %x", name, other)
		}
		checkHas(t, name+", what it answered was written over", e, m)
		disturb(e)
		checkPairs(t, name+": an answer, the engine was changed", two, want)
	}
}

// checkApart asks that no two of some texts lie in one memory.
func checkApart(t *testing.T, name string, l ...string) {
	t.Helper()
	for i := range l {
		for j := range i {
			if unsafe.StringData(l[i]) == unsafe.StringData(l[j]) {
				t.Errorf("%s: the texts %d and %d are one", name, j, i)
			}
		}
	}
}

func TestTextsOfAnswersAreNew(t *testing.T) {
	for name, e := range built(t, []api.Change{put("key", "val")}) {
		one, _ := e.Get("key")
		two, _ := e.Get("key")
		l, again := e.Range(api.Range{}, 1), e.Range(api.Range{}, 1)
		p, _ := e.Cursor(api.Range{}).Next()
		checkApart(t, name, one, two, l[0].Key, l[0].Val, again[0].Key, again[0].Val, p.Key, p.Val)
	}
}

// R3

func TestNilAndNoElementsAreTheSame(t *testing.T) {
	e := filled(1, nil, []api.Change{}, []api.Change{put("a", "1")}, nil, []api.Change{})
	checkHas(t, "empty batches", e, table{"a": "1"})
	for _, b := range [][]byte{nil, {}} {
		if other, err := engine.Import(b, 1); other != nil || err != api.ErrShort {
			t.Errorf("Import of nothing = %v, %d", other, err)
		}
	}
	for _, n := range []int{math.MinInt, -1, 0} {
		if l := e.Range(api.Range{}, n); len(l) != 0 {
			t.Errorf("Range of %d pairs = %q", n, l)
		}
	}
}
