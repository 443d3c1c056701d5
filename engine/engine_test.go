package engine_test

import (
	"encoding/hex"
	"fmt"
	"math"
	"slices"
	"strings"
	"testing"

	"shelfmark/api"
	"shelfmark/engine"
	"shelfmark/run"
	"shelfmark/sample"
)

// limits are such that a small table may have, those below 1 too.
func limits() []int {
	return []int{math.MinInt, -1, 0, 1, 2, 3, 4, 5, 16, 100}
}

// P10.1

func TestNewHasNothing(t *testing.T) {
	for _, limit := range append(limits(), math.MaxInt) {
		e := engine.New(limit)
		checkHas(t, "New", e, table{})
		checkRuns(t, "New", e, 0, 0)
	}
}

func TestPutDoesEachChangeInOrder(t *testing.T) {
	for _, c := range []struct {
		batch []api.Change
		want  table
	}{
		{nil, table{}},
		{[]api.Change{}, table{}},
		{[]api.Change{put("", "")}, table{"": ""}},
		{[]api.Change{gone("")}, table{}},
		{[]api.Change{gone("a"), gone("a")}, table{}},
		{[]api.Change{put("a", "1"), put("a", "2"), put("a", "3")}, table{"a": "3"}},
		{[]api.Change{put("a", "3"), put("a", "2"), put("a", "1")}, table{"a": "1"}},
		{[]api.Change{put("a", "1"), put("a", "")}, table{"a": ""}},
		{[]api.Change{put("a", "1"), gone("a")}, table{}},
		{[]api.Change{gone("a"), put("a", "1")}, table{"a": "1"}},
		{[]api.Change{put("a", "1"), gone("a"), put("a", "")}, table{"a": ""}},
		{[]api.Change{put("a", "1"), gone("a"), put("a", "2"), gone("a"), gone("a")}, table{}},
		// The Val of what is Gone doesn't count.
		{[]api.Change{{Key: "a", Val: "x", Gone: true}}, table{}},
		{[]api.Change{put("a", "1"), {Key: "a", Val: "1", Gone: true}, put("b", "2"), {Key: "c", Val: "x", Gone: true}}, table{"b": "2"}},
		{[]api.Change{put("b", "2"), put("a", "1"), gone("c"), put("c", "3"), gone("b")}, table{"a": "1", "c": "3"}},
		// Keys are told apart byte by byte.
		{[]api.Change{put("a", "1"), put("a\x00", "2"), put("A", "3"), put("aa", "4"), gone("a")}, table{"a\x00": "2", "A": "3", "aa": "4"}},
		{[]api.Change{put("ä", "1"), put("\xff", "2"), put("\xc3", "3"), gone("\xc3\xa4")}, table{"\xff": "2", "\xc3": "3"}},
	} {
		for _, limit := range limits() {
			name := fmt.Sprintf("New(%d), Put(%+v)", limit, c.batch)
			checkHas(t, name, filled(limit, c.batch), c.want)
			checkHas(t, name+" one by one", filled(limit, ones(c.batch)...), c.want)
			checkHas(t, name+" twice", filled(limit, c.batch, c.batch), c.want)
		}
	}
}

func TestAllSmallBatches(t *testing.T) {
	for _, l := range sample.Lists(4, few()...) {
		m := tableOf(l)
		for _, limit := range []int{1, 2, 3} {
			e := filled(limit, ones(l)...)
			if e.Len() != len(m) {
				t.Errorf("%+v: Len = %d, not %d", l, e.Len(), len(m))
			}
			for _, key := range []string{"", "a", "a\x00", "b", "c"} {
				checkGet(t, e, m, key)
			}
			checkPairs(t, fmt.Sprintf("Range behind %+v", l), e.Range(api.Range{}, 9), m.pairs(api.Range{}))
		}
	}
}

func TestWhatIsPutOverRuns(t *testing.T) {
	for _, limit := range limits() {
		e, m := engine.New(limit), table{}
		for i, batch := range batches(10+limit%9, 60, 9) {
			e.Put(batch)
			m.put(batch)
			checkHas(t, fmt.Sprintf("New(%d), %d batches", limit, i+1), e, m)
		}
	}
}

func TestWhatIsGoneStaysGone(t *testing.T) {
	for _, limit := range limits() {
		e, m := filled(limit, fresh(50)), tableOf(fresh(50))
		for i, c := range fresh(50) {
			batch := []api.Change{gone(c.Key)}
			e.Put(batch)
			m.put(batch)
			if i%9 == 0 {
				e.Compact()
			}
			checkGet(t, e, m, c.Key)
		}
		checkHas(t, "all gone", e, table{})
		e.Put(fresh(20))
		checkHas(t, "put again", e, tableOf(fresh(20)))
	}
}

func TestEnginesOfManyWaysHaveTheSamePairs(t *testing.T) {
	for seed := range 20 {
		all := batches(seed, seed*2, 8)
		for name, e := range built(t, all...) {
			checkHas(t, fmt.Sprintf("seed %d, %s", seed, name), e, tableOf(all...))
		}
	}
}

// P10.2

func TestRangeOfKnownRanges(t *testing.T) {
	l := []api.Change{put("", "0"), put("a", "1"), put("a\x00", "2"), put("b", "3"), put("c", "4"), put("\xff", "5")}
	pairs := tableOf(l).pairs(api.Range{})
	for name, e := range built(t, l[3:], []api.Change{put("aa", "x"), put("b", "y"), gone("zz")}, l[:4], []api.Change{gone("aa"), gone("ab")}) {
		for _, c := range []struct {
			lo, hi   string
			from, to int
		}{
			{"", "", 0, 6}, {"", "a", 0, 1}, {"a", "", 1, 6}, {"a", "c", 1, 4}, {"a", "a\x00", 1, 2}, {"a\x00", "b\x00", 2, 4},
			{"aa", "bb", 3, 4}, {"c", "\xff", 4, 5}, {"c", "\xff\x00", 4, 6}, {"\xff", "", 5, 6}, {"", "\x00", 0, 1}, {"\x00", "", 1, 6},
			// Nothing is there, or the range is empty.
			{"\xff\x00", "", 6, 6}, {"aa", "ab", 3, 3}, {"a", "a", 0, 0}, {"b", "a", 0, 0}, {"c", "\x00", 0, 0}, {"\xff\xff", "a", 0, 0},
		} {
			r, want := api.Range{Lo: c.lo, Hi: c.hi}, pairs[c.from:c.to]
			for _, n := range []int{math.MinInt, -1, 0, 1, 2, 3, 5, 6, 7, math.MaxInt} {
				most := min(max(n, 0), len(want))
				checkPairs(t, fmt.Sprintf("%s: Range(%q, %d)", name, r, n), e.Range(r, n), want[:most])
			}
			cursor := e.Cursor(r)
			checkPairs(t, fmt.Sprintf("%s: Cursor(%q)", name, r), drain(cursor), want)
			checkNothing(t, cursor)
		}
	}
}

func TestRangesOfManyRuns(t *testing.T) {
	for seed := range 6 {
		all := batches(100+seed, 40, 6)
		m := tableOf(all...)
		for name, e := range built(t, all...) {
			for _, lo := range sample.Edges() {
				for _, hi := range sample.Edges() {
					r := api.Range{Lo: lo, Hi: hi}
					want := m.pairs(r)
					n := len(want) / 2
					checkPairs(t, fmt.Sprintf("%s: Range(%.50q, %d)", name, r, n), e.Range(r, n), want[:n])
					checkPairs(t, fmt.Sprintf("%s: Cursor(%.50q)", name, r), drain(e.Cursor(r)), want)
				}
			}
			checkHas(t, name+", asked", e, m)
		}
	}
}

// disturb changes an engine in all ways there are: each pair is changed or goes, and others come.
func disturb(e *engine.Engine) {
	for i, p := range e.Range(api.Range{}, math.MaxInt) {
		e.Put([]api.Change{{Key: p.Key, Val: "disturbed", Gone: i%2 == 0}, put(p.Key+"\x00", "new")})
		if i%5 == 0 {
			e.Compact()
		}
	}
	e.Put(fresh(9))
	e.Put([]api.Change{put("", "first"), put("\xff\xff\xff", "last")})
}

func TestACursorGoesOverWhatStoodThere(t *testing.T) {
	all := batches(7, 30, 5)
	m := tableOf(all...)
	for _, r := range []api.Range{{}, {Lo: "a"}, {Hi: "b"}, {Lo: "a\x00", Hi: "\x80"}, {Lo: "b", Hi: "a"}} {
		want := m.pairs(r)
		for ahead := range len(want) + 1 {
			for name, e := range built(t, all...) {
				c := e.Cursor(r)
				var got []api.Pair
				for range ahead {
					p, _ := c.Next()
					got = append(got, p)
				}
				disturb(e)
				checkPairs(t, name+": the cursor", append(got, drain(c)...), want)
				checkNothing(t, c)
			}
		}
	}
}

func TestACursorStandsWhileEachPairChanges(t *testing.T) {
	for _, limit := range limits() {
		e, m := filled(limit, fresh(40)), tableOf(fresh(40))
		c := e.Cursor(api.Range{})
		for i, want := range m.pairs(api.Range{}) {
			e.Put([]api.Change{put(want.Key, "later"), put(want.Key+"\x00", "later"), gone(fmt.Sprintf("fresh%05d", 39-i))})
			if got, ok := c.Next(); got != want || !ok {
				t.Errorf("limit %d: Next = %q, %t, not %q", limit, got, ok, want)
			}
		}
		checkNothing(t, c)
		// What comes behind the cursor's making isn't for it, also when it is at its end.
		e.Put([]api.Change{put("z", "z")})
		checkNothing(t, c)
	}
}

func TestCursorsGoEachTheirOwnWay(t *testing.T) {
	for name, e := range built(t, fresh(20)) {
		want := tableOf(fresh(20)).pairs(api.Range{})
		one, two := e.Cursor(api.Range{}), e.Cursor(api.Range{})
		for i := range want {
			if got, ok := one.Next(); got != want[i] || !ok {
				t.Errorf("%s: Next = %q, %t, not %q", name, got, ok, want[i])
			}
			if i%2 == 0 {
				if got, ok := two.Next(); got != want[i/2] || !ok {
					t.Errorf("%s: the other's Next = %q, %t, not %q", name, got, ok, want[i/2])
				}
			}
		}
		checkNothing(t, one)
		checkPairs(t, name+": the other", drain(two), want[10:])
	}
}

// P10.3

// beginnings are engines as each function that makes them, and Compact, leave them.
func beginnings(t *testing.T, limit int, l []api.Change) map[string]*engine.Engine {
	t.Helper()
	compacted := filled(limit, l)
	compacted.Compact()
	low, _ := filled(limit, l).Cut("\xff\xff\xff")
	_, high := filled(limit, l).Cut("")
	return map[string]*engine.Engine{
		"New":     engine.New(limit),
		"Import":  imported(t, tableOf(l).form(), limit),
		"Cut":     low,
		"Cut two": high,
		"Join":    joined(t, filled(limit, l), engine.New(1)),
		"Compact": compacted,
	}
}

func TestNoRunComesUpToTheLimit(t *testing.T) {
	for _, limit := range limits() {
		most := max(limit, 1)
		for _, l := range [][]api.Change{nil, {put("a", "1")}, fresh(30)} {
			for name, e := range beginnings(t, limit, l) {
				runs := e.Runs()
				// Each key more than once, some that are there, some that go, in batches and one by one.
				keys := append(fresh(max(most-2, 0)), put("a", "2"), put("q", "3"))[:most]
				for range 3 {
					e.Put(keys)
					for i, c := range keys {
						e.Put([]api.Change{{Key: c.Key, Val: "again", Gone: i%3 == 1}})
					}
					if e.Runs() > runs {
						t.Errorf("%s with %d pairs: %d keys were put, limit %d, and %d runs became %d", name, len(l), most, limit, runs, e.Runs())
					}
				}
			}
		}
	}
}

func TestNoRunComesOfManyKeys(t *testing.T) {
	for _, limit := range []int{3000, 3001, math.MaxInt} {
		e := filled(limit, fresh(3000))
		checkRuns(t, fmt.Sprintf("limit %d", limit), e, 0, 3000)
		checkHas(t, fmt.Sprintf("limit %d", limit), e, tableOf(fresh(3000)))
	}
}

func TestTheSmallTableHoldsNoMoreThanTheLimit(t *testing.T) {
	for _, limit := range limits() {
		most := max(limit, 1)
		for _, n := range []int{most + 1, most + 2, 2 * most, 5*most + 3} {
			for _, e := range []*engine.Engine{filled(limit, fresh(n)), filled(limit, ones(fresh(n))...)} {
				// They can't all stand in the small table.
				if e.Runs() < 1 {
					t.Errorf("limit %d: %d pairs, and no run", limit, n)
				}
				checkHas(t, fmt.Sprintf("limit %d, %d pairs", limit, n), e, tableOf(fresh(n)))
			}
		}
		// Without a run all that is held stands in the small table.
		e := engine.New(limit)
		for i, batch := range batches(33, 300, 3) {
			e.Put(batch)
			if e.Runs() == 0 && e.Held() > most {
				t.Errorf("limit %d: %d held in no run", limit, e.Held())
			}
			if i%40 == 0 {
				e.Compact()
			}
		}
	}
}

func TestTheLimitGoesOnToOthers(t *testing.T) {
	for _, limit := range limits() {
		most := max(limit, 1)
		low, high := filled(limit, []api.Change{put("a", "1"), gone("a")}).Cut("a")
		for name, e := range map[string]*engine.Engine{
			"Import":       imported(t, []byte{0}, limit),
			"Cut":          low,
			"Cut two":      high,
			"Join small":   joined(t, engine.New(limit), engine.New(1)),
			"Join large":   joined(t, engine.New(limit), engine.New(1000)),
			"Cut and Join": joined(t, low, high),
		} {
			e.Put(fresh(most))
			checkRuns(t, fmt.Sprintf("%s, limit %d", name, limit), e, 0, most)
			e.Put([]api.Change{put("one more", "")})
			if e.Runs() < 1 {
				t.Errorf("%s, limit %d: %d pairs, and no run", name, limit, e.Len())
			}
		}
	}
}

func TestHeldCountsChanges(t *testing.T) {
	e := engine.New(9)
	for i, c := range []struct {
		batch []api.Change
		held  int
	}{
		{nil, 0},
		{[]api.Change{put("a", "1")}, 1},
		{[]api.Change{put("b", "2"), put("c", "3"), put("b", "4")}, 3},
		{[]api.Change{put("a", "5")}, 3},
	} {
		e.Put(c.batch)
		checkRuns(t, fmt.Sprintf("step %d", i), e, 0, c.held)
	}
	// What goes from the small table to runs is held on, until something newer stands in its place.
	for _, limit := range limits() {
		e, n := engine.New(limit), 0
		for i, batch := range batches(55, 100, 4) {
			e.Put(batch)
			n += len(batch)
			if e.Held() > n || e.Held() < e.Len() {
				t.Errorf("limit %d, step %d: %d held of %d that were put, %d pairs", limit, i, e.Held(), n, e.Len())
			}
		}
	}
}

func TestCompactLeavesThePairsAlone(t *testing.T) {
	for seed := range 12 {
		all := batches(200+seed, seed*3, 7)
		m := tableOf(all...)
		for name, e := range built(t, all...) {
			for range 2 {
				e.Compact()
				checkRuns(t, name, e, min(len(m), 1), len(m))
				checkHas(t, name, e, m)
			}
		}
	}
}

func TestCompactOfNoPairs(t *testing.T) {
	for _, limit := range limits() {
		for name, e := range map[string]*engine.Engine{
			"new":      engine.New(limit),
			"gone":     filled(limit, []api.Change{gone("a"), gone("b")}),
			"put gone": filled(limit, fresh(30), goneAll(fresh(30))),
			"imported": imported(t, []byte{0}, limit),
		} {
			e.Compact()
			checkRuns(t, name, e, 0, 0)
			checkHas(t, name, e, table{})
		}
	}
}

// goneAll are changes by which the keys of others go.
func goneAll(l []api.Change) []api.Change {
	var all []api.Change
	for _, c := range l {
		all = append(all, gone(c.Key))
	}
	return all
}

// P10.4

func TestExportIsTheForm(t *testing.T) {
	for _, c := range []struct {
		l    []api.Change
		want string
	}{
		{nil, "00"},
		{[]api.Change{gone("a")}, "00"},
		{[]api.Change{put("", "")}, "01000000"},
		{[]api.Change{put("b", ""), put("a", "1"), gone("c")}, "02016100013101620000"},
		{[]api.Change{put("\x00\xff", "\xff\x00\x01")}, "010200ff0003ff0001"},
	} {
		for name, e := range built(t, c.l) {
			if got := hex.EncodeToString(e.Export()); got != c.want {
				t.Errorf("%s: Export behind %+v = %s, not %s", name, c.l, got, c.want)
			}
		}
	}
}

func TestExportIsWhatPackTells(t *testing.T) {
	for seed := range 10 {
		all := batches(300+seed, 20, 8)
		var pairs []api.Change
		for _, p := range tableOf(all...).pairs(api.Range{}) {
			pairs = append(pairs, put(p.Key, p.Val))
		}
		want, err := run.Pack(pairs)
		checkErr(t, "Pack", err, api.OK)
		for name, e := range built(t, all...) {
			runs, held := e.Runs(), e.Held()
			if got := e.Export(); !slices.Equal(got, want) {
				t.Errorf("%s: Export = %x, not %x", name, got, want)
			}
			checkRuns(t, name+", exported", e, runs, held)
		}
	}
}

func TestImportReadsWhatExportTells(t *testing.T) {
	for seed := range 10 {
		all := batches(400+seed, seed*3, 8)
		m := tableOf(all...)
		for name, e := range built(t, all...) {
			for _, limit := range limits() {
				other := imported(t, e.Export(), limit)
				checkHas(t, name+", imported", other, m)
				disturb(other)
			}
			checkHas(t, name+", exported", e, m)
		}
	}
}

func TestImportErrorsInTheirOrder(t *testing.T) {
	for _, c := range []struct {
		b string
		e api.Errno
	}{
		{"", api.ErrShort},
		{"\x80", api.ErrShort},
		{"\x80\x00", api.ErrForm},
		{"\xff\xff\xff\xff\xff\xff\xff\xff\xff", api.ErrForm},
		{"\xff\xff\xff\xff\xff\xff\xff\x7f", api.ErrShort},
		{"\x00\x00", api.ErrForm},
		{"\x01\x01a\x00", api.ErrShort},
		{"\x01\x05a\x00", api.ErrShort},
		{"\x01\x01a\x02\x00", api.ErrForm},
		{"\x01\x01a\x00\x00\x00", api.ErrForm},
		{"\x02\x01b\x00\x00\x01a\x00\x00", api.ErrForm},
		{"\x02\x01a\x00\x00\x01a\x00\x00", api.ErrForm},
		// A change that is Gone: behind all that Unpack finds wrong, wherever it stands.
		{"\x01\x01a\x01\x00", api.ErrForm},
		{"\x01\x01a\x01\x01x", api.ErrForm},
		{"\x02\x01a\x01\x00\x01b\x00\x00", api.ErrForm},
		{"\x02\x01a\x00\x00\x01b\x01\x00", api.ErrForm},
		{"\x03\x01a\x00\x00\x01b\x01\x00\x01c\x00\x00", api.ErrForm},
		{"\x02\x01a\x01\x00\x01b\x00", api.ErrShort},
		{"\x02\x01a\x01\x00", api.ErrShort},
		{"\x02\x01a\x01\x00\x80", api.ErrShort},
	} {
		for _, limit := range limits() {
			e, err := engine.Import([]byte(c.b), limit)
			if e != nil || err != c.e {
				t.Errorf("Import(%q, %d) = %v, %d, not %d", c.b, limit, e, err, c.e)
			}
		}
	}
}

func TestImportOfAllShortBytes(t *testing.T) {
	for _, b := range sample.Lists(6, 0, 1, 2, 'a', byte(0x80)) {
		l, want := run.Unpack(b)
		if want == api.OK && slices.ContainsFunc(l, func(c api.Change) bool { return c.Gone }) {
			want = api.ErrForm
		}
		e, err := engine.Import(b, 2)
		if err != want || (e == nil) != (want != api.OK) {
			t.Errorf("Import(%x) = %v, %d, not %d", b, e, err, want)
		}
		if e != nil {
			checkHas(t, "Import", e, tableOf(l))
		}
	}
}

func TestCutPartsThePairs(t *testing.T) {
	for seed := range 4 {
		all := batches(500+seed, 5*seed, 8)
		m := tableOf(all...)
		for name, e := range built(t, all...) {
			runs, held := e.Runs(), e.Held()
			for _, at := range sample.Edges() {
				low, high := e.Cut(at)
				below, above := table{}, table{}
				for key, val := range m {
					if strings.Compare(key, at) < 0 {
						below[key] = val
					} else {
						above[key] = val
					}
				}
				checkHas(t, fmt.Sprintf("%s: below %.9q", name, at), low, below)
				checkHas(t, fmt.Sprintf("%s: from %.9q on", name, at), high, above)
			}
			checkHas(t, name+", cut", e, m)
			checkRuns(t, name+", cut", e, runs, held)
		}
	}
}

func TestWhatIsCutGoesItsOwnWay(t *testing.T) {
	all := batches(9, 20, 8)
	m := tableOf(all...)
	for name := range built(t, all...) {
		for first := range 3 {
			e := built(t, all...)[name]
			low, high := e.Cut("aa")
			three := []*engine.Engine{e, low, high}
			tables := []table{m, tableOf(changesOf(m, api.Range{Hi: "aa"})), tableOf(changesOf(m, api.Range{Lo: "aa"}))}
			disturb(three[first])
			for i := range three {
				if i != first {
					checkHas(t, name, three[i], tables[i])
				}
			}
		}
	}
}

// changesOf are a table's pairs in a range, as changes.
func changesOf(m table, r api.Range) []api.Change {
	var l []api.Change
	for _, p := range m.pairs(r) {
		l = append(l, put(p.Key, p.Val))
	}
	return l
}

func TestJoinHasThePairsOfBoth(t *testing.T) {
	for seed := range 4 {
		all := batches(600+seed, 5*seed, 8)
		m := tableOf(all...)
		for name, e := range built(t, all...) {
			for _, at := range sample.Edges() {
				low, high := e.Cut(at)
				checkHas(t, name+", joined", joined(t, low, high), m)
			}
			checkHas(t, name+", none joined", joined(t, e, engine.New(3)), m)
			checkHas(t, name+", joined to none", joined(t, engine.New(3), e), m)
		}
	}
	none := engine.New(1)
	checkHas(t, "none joined to itself", joined(t, none, none), table{})
}

func TestJoinOfKeysThatAreNotAbove(t *testing.T) {
	for _, c := range []struct {
		a, b []api.Change
		want api.Errno
	}{
		{nil, nil, api.OK},
		{[]api.Change{put("z", "")}, nil, api.OK},
		{nil, []api.Change{put("", "")}, api.OK},
		{[]api.Change{put("", "")}, []api.Change{put("\x00", "")}, api.OK},
		{[]api.Change{put("a", "")}, []api.Change{put("a\x00", "")}, api.OK},
		{[]api.Change{put("a", ""), put("b", "")}, []api.Change{put("c", ""), put("d", "")}, api.OK},
		{[]api.Change{put("z", "")}, []api.Change{put("ä", "")}, api.OK},
		{[]api.Change{put("", "")}, []api.Change{put("", "")}, api.ErrPlan},
		{[]api.Change{put("a", "1")}, []api.Change{put("a", "1")}, api.ErrPlan},
		{[]api.Change{put("a", "1")}, []api.Change{put("a", "2")}, api.ErrPlan},
		{[]api.Change{put("b", "")}, []api.Change{put("a", "")}, api.ErrPlan},
		{[]api.Change{put("a", "")}, []api.Change{put("", "")}, api.ErrPlan},
		{[]api.Change{put("a\x00", "")}, []api.Change{put("a", "")}, api.ErrPlan},
		{[]api.Change{put("\x80", "")}, []api.Change{put("\x7f", "")}, api.ErrPlan},
		{[]api.Change{put("a", ""), put("c", "")}, []api.Change{put("b", ""), put("d", "")}, api.ErrPlan},
		{[]api.Change{put("a", ""), put("c", "")}, []api.Change{put("c", ""), put("d", "")}, api.ErrPlan},
		{[]api.Change{put("a", ""), put("d", "")}, []api.Change{put("b", ""), put("c", "")}, api.ErrPlan},
		{[]api.Change{put("c", ""), put("d", "")}, []api.Change{put("a", ""), put("b", "")}, api.ErrPlan},
		// What is gone is no key of either.
		{[]api.Change{put("a", ""), put("z", ""), gone("z")}, []api.Change{put("b", "")}, api.OK},
		{[]api.Change{put("b", "")}, []api.Change{put("c", ""), gone("a"), put("b", "x"), gone("b")}, api.OK},
	} {
		for name, a := range built(t, ones(c.a)...) {
			b := built(t, ones(c.b)...)[name]
			e, err := engine.Join(a, b)
			call := fmt.Sprintf("%s: Join of %+v and %+v", name, c.a, c.b)
			checkErr(t, call, err, c.want)
			checkHas(t, call+", a", a, tableOf(c.a))
			checkHas(t, call+", b", b, tableOf(c.b))
			if err == api.OK {
				checkHas(t, call, e, tableOf(append(changesOf(tableOf(c.a), api.Range{}), changesOf(tableOf(c.b), api.Range{})...)))
			} else if e != nil {
				t.Errorf("%s: an engine beside the error", call)
			}
		}
	}
}

func TestAnEngineIsNotAboveItself(t *testing.T) {
	for name, e := range built(t, fresh(3)) {
		if other, err := engine.Join(e, e); other != nil || err != api.ErrPlan {
			t.Errorf("%s: Join with itself = %v, %d", name, other, err)
		}
		checkHas(t, name, e, tableOf(fresh(3)))
	}
}

func TestWhatIsJoinedGoesItsOwnWay(t *testing.T) {
	all := batches(11, 20, 8)
	m := tableOf(all...)
	below, above := tableOf(changesOf(m, api.Range{Hi: "b"})), tableOf(changesOf(m, api.Range{Lo: "b"}))
	for name := range built(t, all...) {
		for first := range 3 {
			a, b := built(t, changesOf(m, api.Range{Hi: "b"}))[name], built(t, changesOf(m, api.Range{Lo: "b"}))[name]
			three := []*engine.Engine{a, b, joined(t, a, b)}
			tables := []table{below, above, m}
			disturb(three[first])
			for i := range three {
				if i != first {
					checkHas(t, name, three[i], tables[i])
				}
			}
		}
	}
}

// The chapter's examples.

func TestTheChaptersExamples(t *testing.T) {
	e := engine.New(2)
	e.Put([]api.Change{put("a", "1"), put("b", "2")})
	if e.Runs() != 0 {
		t.Errorf("Runs = %d", e.Runs())
	}
	e.Put([]api.Change{put("c", "3")})
	e.Put([]api.Change{gone("b")})
	e.Compact()
	checkRuns(t, "Compact", e, 1, 2)
	if e.Len() != 2 {
		t.Errorf("Len = %d", e.Len())
	}
	checkPairs(t, "Range", e.Range(api.Range{}, 1), []api.Pair{{Key: "a", Val: "1"}})
	if got := hex.EncodeToString(e.Export()); got != "0201610001310163000133" {
		t.Errorf("Export = %s", got)
	}
}
