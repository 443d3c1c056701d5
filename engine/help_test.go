package engine_test

import (
	"encoding/binary"
	"fmt"
	"maps"
	"math"
	"slices"
	"strings"
	"testing"

	"shelfmark/api"
	"shelfmark/engine"
	"shelfmark/sample"
)

func put(key, val string) api.Change {
	return api.Change{Key: key, Val: val}
}

func gone(key string) api.Change {
	return api.Change{Key: key, Gone: true}
}

// table is an engine told by a map of the library.
type table map[string]string

// put does a batch to the table.
func (m table) put(batch []api.Change) {
	for _, c := range batch {
		if c.Gone {
			delete(m, c.Key)
		} else {
			m[c.Key] = c.Val
		}
	}
}

// pairs are the table's pairs in a range, by rising keys.
func (m table) pairs(r api.Range) []api.Pair {
	var l []api.Pair
	for _, key := range slices.Sorted(maps.Keys(m)) {
		if strings.Compare(key, r.Lo) >= 0 && (len(r.Hi) == 0 || strings.Compare(key, r.Hi) < 0) {
			l = append(l, api.Pair{Key: key, Val: m[key]})
		}
	}
	return l
}

// form is the table's pairs as Export has to tell them.
func (m table) form() []byte {
	b := binary.AppendUvarint(nil, uint64(len(m)))
	for _, p := range m.pairs(api.Range{}) {
		b = append(binary.AppendUvarint(b, uint64(len(p.Key))), p.Key...)
		b = append(b, 0)
		b = append(binary.AppendUvarint(b, uint64(len(p.Val))), p.Val...)
	}
	return b
}

// tableOf is the table that some batches make.
func tableOf(batches ...[]api.Change) table {
	m := table{}
	for _, batch := range batches {
		m.put(batch)
	}
	return m
}

// filled is an engine to which some batches were put.
func filled(limit int, batches ...[]api.Change) *engine.Engine {
	e := engine.New(limit)
	for _, batch := range batches {
		e.Put(batch)
	}
	return e
}

// ones are batches of one change each.
func ones(l []api.Change) [][]api.Change {
	var batches [][]api.Change
	for _, c := range l {
		batches = append(batches, []api.Change{c})
	}
	return batches
}

// fresh are n changes of as many keys that no other of these tests has, out of their order.
func fresh(n int) []api.Change {
	// A prime that no n has as a divisor, so that no key comes twice.
	const stride = 1000003
	var l []api.Change
	for i := range n {
		l = append(l, put(fmt.Sprintf("fresh%05d", i*stride%n), "f"))
	}
	return l
}

// few are changes of few keys, of which some are beginnings of others; one is Gone and has a Val.
func few() []api.Change {
	return []api.Change{put("", "0"), gone(""), put("a", "1"), put("a", ""), {Key: "a", Val: "2", Gone: true}, put("a\x00", "3"), put("b", "4"), gone("b")}
}

// thrown is a batch of up to most changes that dice throw, of few keys.
func thrown(d *sample.Dice, most int) []api.Change {
	var l []api.Change
	for range d.Below(most + 1) {
		c := put(sample.Pick(d, sample.Edges())+sample.Pick(d, []string{"", "", "\x00", "q"}), string(sample.Bytes(d.Below(4))))
		c.Gone = d.Below(3) == 0
		l = append(l, c)
	}
	return l
}

// batches are n batches that dice throw.
func batches(seed, n, most int) [][]api.Change {
	d := sample.Dice(seed)
	var l [][]api.Change
	for range n {
		l = append(l, thrown(&d, most))
	}
	return l
}

// built are engines with the same pairs, come to in many ways, of limits that make no, few and many runs.
func built(t *testing.T, all ...[]api.Change) map[string]*engine.Engine {
	t.Helper()
	l := map[string]*engine.Engine{}
	for _, limit := range []int{0, 1, 2, 3, 7, 1000} {
		name := func(way string) string { return fmt.Sprintf("%s, limit %d", way, limit) }
		l[name("batches")] = filled(limit, all...)
		l[name("one batch")] = filled(limit, slices.Concat(all...))
		l[name("single changes")] = filled(limit, ones(slices.Concat(all...))...)
		e := filled(limit, all...)
		e.Compact()
		l[name("compacted")] = e
		e = engine.New(limit)
		for _, batch := range all {
			e.Put(batch)
			e.Compact()
		}
		l[name("always compacted")] = e
		e = engine.New(limit)
		for i, batch := range all {
			if i == len(all)/2 {
				e.Compact()
			}
			e.Put(batch)
		}
		l[name("compacted amid")] = e
		l[name("imported")] = imported(t, tableOf(all...).form(), limit)
		low, high := filled(limit, all...).Cut("b")
		l[name("joined")] = joined(t, low, high)
	}
	return l
}

func imported(t *testing.T, b []byte, limit int) *engine.Engine {
	t.Helper()
	e, err := engine.Import(b, limit)
	if err != api.OK {
		t.Fatalf("Import of %.50x = %d", b, err)
	}
	return e
}

func joined(t *testing.T, a, b *engine.Engine) *engine.Engine {
	t.Helper()
	e, err := engine.Join(a, b)
	if err != api.OK {
		t.Fatalf("Join = %d", err)
	}
	return e
}

// drain is what a cursor still has.
func drain(c *engine.Cursor) []api.Pair {
	var l []api.Pair
	for {
		p, ok := c.Next()
		if !ok {
			return l
		}
		l = append(l, p)
	}
}

func checkPairs(t *testing.T, call string, got, want []api.Pair) {
	t.Helper()
	if !slices.Equal(got, want) {
		t.Errorf("%s = %d pairs %.300q, not %d %.300q", call, len(got), got, len(want), want)
	}
}

func checkErr(t *testing.T, call string, got, want api.Errno) {
	t.Helper()
	if got != want {
		t.Errorf("%s: the error %d, not %d", call, got, want)
	}
}

// checkNothing asks a cursor that is behind its last pair, more than once.
func checkNothing(t *testing.T, c *engine.Cursor) {
	t.Helper()
	for range 3 {
		if p, ok := c.Next(); p != (api.Pair{}) || ok {
			t.Errorf("Next behind the last pair = %q, %t", p, ok)
		}
	}
}

func checkGet(t *testing.T, e *engine.Engine, m table, key string) {
	t.Helper()
	val, there := m[key]
	if got, ok := e.Get(key); got != val || ok != there {
		t.Errorf("Get(%.50q) = %.50q, %t, not %.50q, %t", key, got, ok, val, there)
	}
}

// checkHas asks an engine for all that it tells of its pairs.
func checkHas(t *testing.T, name string, e *engine.Engine, m table) {
	t.Helper()
	if e.Len() != len(m) {
		t.Errorf("%s: Len = %d, not %d", name, e.Len(), len(m))
	}
	for key := range m {
		checkGet(t, e, m, key)
		checkGet(t, e, m, key+"\x00")
	}
	for _, key := range sample.Edges() {
		checkGet(t, e, m, key)
	}
	checkPairs(t, name+": Range", e.Range(api.Range{}, math.MaxInt), m.pairs(api.Range{}))
	c := e.Cursor(api.Range{})
	checkPairs(t, name+": Cursor", drain(c), m.pairs(api.Range{}))
	checkNothing(t, c)
	if b := e.Export(); !slices.Equal(b, m.form()) {
		t.Errorf("%s: Export = %d bytes %.100x, not %d %.100x", name, len(b), b, len(m.form()), m.form())
	}
	// Each pair is held at least once.
	if e.Held() < len(m) || e.Runs() < 0 || len(m) > 0 && e.Held() < 1 {
		t.Errorf("%s: %d pairs, %d held in %d runs", name, len(m), e.Held(), e.Runs())
	}
}

// checkRuns asks for the numbers of runs and of held changes.
func checkRuns(t *testing.T, name string, e *engine.Engine, runs, held int) {
	t.Helper()
	if e.Runs() != runs || e.Held() != held {
		t.Errorf("%s: %d held in %d runs, not %d in %d", name, e.Held(), e.Runs(), held, runs)
	}
}
