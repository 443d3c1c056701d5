package atlas_test

import (
	"fmt"
	"maps"
	"math"
	"slices"
	"strings"
	"testing"

	"shelfmark/api"
	"shelfmark/atlas"
	"shelfmark/pack"
	"shelfmark/sample"
)

// The limits, as the chapter tells them.
const (
	lastEpoch = 1 << 40
	mostParts = 8
	mostBytes = 100
	mostNodes = 4
)

func part(lo string, node int) api.Part {
	return api.Part{Lo: lo, Node: node}
}

func mapOf(epoch int, parts ...api.Part) api.Map {
	return api.Map{Epoch: epoch, Parts: parts}
}

// all is a map whose one part is a node's.
func all(epoch, node int) api.Map {
	return mapOf(epoch, part("", node))
}

// long is a text of n bytes.
func long(n int) string {
	return strings.Repeat("k", n)
}

// full is a map of as many parts as may be.
func full(epoch int) api.Map {
	return mapOf(epoch, part("", 1), part("\x00", 1), part("a", 2), part("a\x00", 2), part("ab", 1), part(long(mostBytes), 4), part("\x80", 3), part("\xff", 3))
}

// parts are lists of parts that a right map may have: of all lengths, of like nodes and unlike ones, with Los of any bytes.
func parts() [][]api.Part {
	l := [][]api.Part{
		{part("", 1), part("m", 1)},
		{part("", 4), part("\x00", 1)},
		{part("", 2), part(strings.Repeat("\xff", mostBytes), 2)},
		{part("", 3), part("Z", 3), part("a", 2), part("ä", 3)},
		{part("", 1), part("a", 1), part("a\x00", 1), part("a\x00\x00", 2), part("a\x01", 2), part("aa", 2)},
		{part("", 2), part(long(mostBytes-1), 3), part(long(mostBytes), 3)},
		{part("", 2), part("\x7f", 1), part("\x80", 1)},
	}
	for node := 1; node <= mostNodes; node++ {
		l = append(l, []api.Part{part("", node)})
	}
	for n := range mostParts {
		l = append(l, full(1).Parts[:n+1])
	}
	return l
}

// epochs are some of those that a right map may have.
func epochs() []int {
	return []int{1, 2, 127, 128, 1 << 20, lastEpoch - 1, lastEpoch}
}

// rightMaps are maps that are right, of all kinds.
func rightMaps() []api.Map {
	var l []api.Map
	for _, epoch := range epochs() {
		for _, p := range parts() {
			l = append(l, mapOf(epoch, p...))
		}
	}
	return l
}

// badEpochs are numbers that no map's epoch is.
func badEpochs() []int {
	return []int{0, -1, math.MinInt, math.MinInt + 1, lastEpoch + 1, lastEpoch + 2, 1 << 41, 1<<40 + 1<<32, math.MaxInt - 1, math.MaxInt}
}

// badNodes are numbers that are no node's.
func badNodes() []int {
	return []int{0, -1, -4, mostNodes + 1, mostNodes + 2, 256, 257, 1<<16 + 1, 1<<32 + 1, math.MinInt, math.MinInt + 1, math.MaxInt}
}

// badParts are lists of parts that no right map has.
func badParts() [][]api.Part {
	l := [][]api.Part{
		nil, {},
		// The first Lo.
		{part("a", 1)}, {part("\x00", 1)}, {part("\x00", 1), part("a", 1)}, {part("a", 1), part("", 1)},
		// They don't rise.
		{part("", 1), part("", 1)}, {part("", 1), part("", 2)}, {part("", 1), part("a", 2), part("a", 3)}, {part("", 1), part("a", 2), part("", 3)},
		{part("", 1), part("b", 2), part("a", 3)}, {part("", 1), part("ab", 2), part("a", 3)}, {part("", 1), part("a\x00", 2), part("a", 3)},
		{part("", 1), part("a", 1), part("c", 1), part("b", 1)}, {part("", 1), part("\x80", 1), part("\x7f", 1)}, {part("", 1), part("ä", 1), part("z", 1)},
		// They are too long.
		{part("", 1), part(long(mostBytes+1), 1)}, {part(long(mostBytes+1), 1)}, {part("", 1), part("a", 1), part(long(70000), 1)},
		{part("", 1), part("\x00"+long(mostBytes), 1), part("a", 1)}, {part("", 1), part(strings.Repeat("ä", mostBytes/2)+"k", 1)},
		// Too many.
		append(slices.Clone(full(1).Parts), part("\xff\x00", 1)), slices.Repeat([]api.Part{part("", 1)}, 100000), rising(mostParts + 1), rising(1000),
	}
	for _, node := range badNodes() {
		l = append(l, []api.Part{part("", node)}, []api.Part{part("", node), part("a", 1)}, []api.Part{part("", 1), part("a", node)}, []api.Part{part("", 1), part("a", node), part("b", 2)})
	}
	return l
}

// rising are so many parts of one node, whose Los rise from the empty text on.
func rising(n int) []api.Part {
	l := []api.Part{part("", 1)}
	for i := 1; i < n; i++ {
		l = append(l, part(fmt.Sprintf("%06d", i), 1))
	}
	return l
}

// fault is a map that isn't right, and what is wrong with it.
type fault struct {
	m api.Map
	e api.Errno
}

// wrongMaps are maps that aren't right, of all kinds.
func wrongMaps() []fault {
	l := []fault{{api.Map{}, api.ErrArg}}
	for _, epoch := range badEpochs() {
		l = append(l, fault{all(epoch, 1), api.ErrArg}, fault{full(epoch), api.ErrArg})
		for _, p := range badParts() {
			l = append(l, fault{mapOf(epoch, p...), api.ErrArg})
		}
	}
	for _, epoch := range epochs() {
		for _, p := range badParts() {
			l = append(l, fault{mapOf(epoch, p...), api.ErrPlan})
		}
	}
	return l
}

// thrown is a map that dice throw: it is right more often than not.
func thrown(d *sample.Dice) api.Map {
	begins := map[string]int{"": 1 + d.Below(mostNodes)}
	for range d.Below(mostParts + 1) {
		begins[thrownText(d)] = 1 + d.Below(mostNodes)
	}
	m := fromTable(1+d.Below(300), begins)
	if d.Below(8) == 0 {
		m.Epoch = sample.Pick(d, append(badEpochs(), lastEpoch, lastEpoch))
	}
	if d.Below(8) == 0 {
		m.Parts[d.Below(len(m.Parts))] = part(thrownText(d), d.Below(mostNodes+2))
	}
	return m
}

func thrownText(d *sample.Dice) string {
	texts := append([]string{"d", "m", "m\x00", "t", long(mostBytes), long(mostBytes + 1)}, sample.Edges()[:16]...)
	return sample.Pick(d, texts)
}

// texts are those at and about the beginnings of a map's parts, and others.
func texts(m api.Map) []string {
	l := slices.Concat(sample.Edges(), []string{"m", long(mostBytes - 1), long(mostBytes), long(mostBytes + 1), long(70000)})
	for _, p := range m.Parts {
		l = append(l, p.Lo, p.Lo+"\x00", p.Lo+"\xff", p.Lo[:max(len(p.Lo)-1, 0)])
	}
	slices.Sort(l)
	return slices.Compact(l)
}

// hasText tells whether the part at a place has a text: each text from its Lo on and below the next one's.
func hasText(m api.Map, i int, s string) bool {
	return strings.Compare(s, m.Parts[i].Lo) >= 0 && (i+1 == len(m.Parts) || strings.Compare(s, m.Parts[i+1].Lo) < 0)
}

// placeOf is the one place whose part has a text.
func placeOf(t *testing.T, m api.Map, s string) int {
	t.Helper()
	at := -1
	for i := range m.Parts {
		if !hasText(m, i, s) {
			continue
		}
		if at >= 0 {
			t.Fatalf("%s: two parts have %.20q", name(m), s)
		}
		at = i
	}
	if at < 0 {
		t.Fatalf("%s: no part has %.20q", name(m), s)
	}
	return at
}

// nodeOf is the node that has a text.
func nodeOf(t *testing.T, m api.Map, s string) int {
	t.Helper()
	return m.Parts[placeOf(t, m, s)].Node
}

// wrongWith is what Check has to answer, told one limit behind the other.
func wrongWith(m api.Map) api.Errno {
	if m.Epoch <= 0 || m.Epoch > lastEpoch {
		return api.ErrArg
	}
	if len(m.Parts) == 0 || len(m.Parts) > mostParts || len(m.Parts[0].Lo) > 0 {
		return api.ErrPlan
	}
	for i, p := range m.Parts {
		if len(p.Lo) > mostBytes || !slices.Contains([]int{1, 2, 3, 4}, p.Node) {
			return api.ErrPlan
		}
		for _, q := range m.Parts[i+1:] {
			if strings.Compare(p.Lo, q.Lo) >= 0 {
				return api.ErrPlan
			}
		}
	}
	return api.OK
}

// table is a map's parts: who has what begins there.
func table(m api.Map) map[string]int {
	begins := map[string]int{}
	for _, p := range m.Parts {
		begins[p.Lo] = p.Node
	}
	return begins
}

func fromTable(epoch int, begins map[string]int) api.Map {
	m := api.Map{Epoch: epoch}
	for _, lo := range slices.Sorted(maps.Keys(begins)) {
		m.Parts = append(m.Parts, part(lo, begins[lo]))
	}
	return m
}

// after is what a call has to answer of a map: of a right one a table's map, unless the plan is refused or the epoch is the last.
func after(m api.Map, begins map[string]int, refused bool) (api.Map, api.Errno) {
	if refused {
		return api.Map{}, api.ErrPlan
	}
	if m.Epoch == lastEpoch {
		return api.Map{}, api.ErrLarge
	}
	return fromTable(m.Epoch+1, begins), api.OK
}

// splitOf is what Split has to answer.
func splitOf(t *testing.T, m api.Map, at string) (api.Map, api.Errno) {
	if e := wrongWith(m); e != api.OK {
		return api.Map{}, e
	}
	begins := table(m)
	_, there := begins[at]
	begins[at] = nodeOf(t, m, at)
	return after(m, begins, at == "" || len(at) > mostBytes || there || len(m.Parts) == mostParts)
}

// mergeOf is what Merge has to answer.
func mergeOf(t *testing.T, m api.Map, at string) (api.Map, api.Errno) {
	if e := wrongWith(m); e != api.OK {
		return api.Map{}, e
	}
	begins := table(m)
	node, there := begins[at]
	if at == "" || !there || node != m.Parts[placeOf(t, m, at)-1].Node {
		return after(m, nil, true)
	}
	delete(begins, at)
	return after(m, begins, false)
}

// moveOf is what Move has to answer.
func moveOf(t *testing.T, m api.Map, key string, node int) (api.Map, api.Errno) {
	if e := wrongWith(m); e != api.OK {
		return api.Map{}, e
	}
	begins := table(m)
	begins[m.Parts[placeOf(t, m, key)].Lo] = node
	return after(m, begins, node < 1 || node > mostNodes || node == nodeOf(t, m, key))
}

// formOf is a map as a text, whether it is right or not; numbers below 0 have no form.
func formOf(m api.Map) string {
	b := []byte(sample.NumForm(m.Epoch) + sample.NumForm(len(m.Parts)))
	for _, p := range m.Parts {
		b = append(b, sample.NumForm(len(p.Lo))+p.Lo+sample.NumForm(p.Node)...)
	}
	return string(b)
}

// unpackError is what Unpack has to find wrong with a text, as the chapter asks for it.
func unpackError(s string) api.Errno {
	b := []byte(s)
	var m api.Map
	var at, count int
	var e api.Errno
	if m.Epoch, at, e = pack.GetNum(b, 0); e != api.OK {
		return e
	}
	if count, at, e = pack.GetNum(b, at); e != api.OK {
		return e
	}
	if count > mostParts {
		return api.ErrLarge
	}
	for range count {
		var p api.Part
		if p.Lo, at, e = pack.GetText(b, at, mostBytes); e != api.OK {
			return e
		}
		if p.Node, at, e = pack.GetNum(b, at); e != api.OK {
			return e
		}
		m.Parts = append(m.Parts, p)
	}
	if at < len(b) {
		return api.ErrForm
	}
	return wrongWith(m)
}

func same(a, b api.Map) bool {
	return a.Epoch == b.Epoch && slices.Equal(a.Parts, b.Parts)
}

// checkMap asks a call for this map and this error.
func checkMap(t *testing.T, call string, got api.Map, gotErr api.Errno, want api.Map, e api.Errno) {
	t.Helper()
	if !same(got, want) || gotErr != e {
		t.Errorf("%s = %s, %d, not %s, %d", call, name(got), gotErr, name(want), e)
	}
}

// checkSplit asks Split for what it has to answer, and likewise the others.
func checkSplit(t *testing.T, m api.Map, at string) {
	t.Helper()
	got, gotErr := atlas.Split(m, at)
	want, e := splitOf(t, m, at)
	checkMap(t, fmt.Sprintf("Split(%s, %.20q)", name(m), at), got, gotErr, want, e)
}

func checkMerge(t *testing.T, m api.Map, at string) {
	t.Helper()
	got, gotErr := atlas.Merge(m, at)
	want, e := mergeOf(t, m, at)
	checkMap(t, fmt.Sprintf("Merge(%s, %.20q)", name(m), at), got, gotErr, want, e)
}

func checkMove(t *testing.T, m api.Map, key string, node int) {
	t.Helper()
	got, gotErr := atlas.Move(m, key, node)
	want, e := moveOf(t, m, key, node)
	checkMap(t, fmt.Sprintf("Move(%s, %.20q, %d)", name(m), key, node), got, gotErr, want, e)
}

func checkErr(t *testing.T, call string, got, want api.Errno) {
	t.Helper()
	if got != want {
		t.Errorf("%s: the error %d, not %d", call, got, want)
	}
}

// name is how a map is told in a fault's text: its epoch, how many parts it has, and the first ones.
func name(m api.Map) string {
	s := fmt.Sprintf("[%d, %d:", m.Epoch, len(m.Parts))
	for _, p := range m.Parts[:min(len(m.Parts), mostParts+1)] {
		s += fmt.Sprintf(" %.12q of %d", p.Lo, p.Node)
	}
	return s + "]"
}
