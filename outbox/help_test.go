package outbox_test

import (
	"fmt"
	"math"
	"slices"
	"strings"
	"testing"

	"shelfmark/api"
	"shelfmark/outbox"
	"shelfmark/sample"
)

var from, intent = sample.Range, sample.Intent

// The limits, as the document tells them.
const (
	mostNumber = 1 << 40
	mostKey    = 16
	mostText   = 32
)

// keyOf tells of which record's key a text is the entry: of all that are made here by entryOf.
var keyOf = map[string]string{}

// entryOf is an entry whose record's key is known then.
func entryOf(id int, key string, l ...api.Val) string {
	s := sample.Entry(id, l, key)
	keyOf[s] = key
	return s
}

// entries are texts that are entries, none of them like another: of all indexes, all keys, and rows of one value and of two.
func entries() []string {
	var l []string
	vals := sample.Vals()[1:]
	for n, v := range vals {
		for m, key := range sample.Keys() {
			row := []api.Val{v, vals[(n*3+m)%len(vals)]}
			l = append(l, entryOf(1+(n+m)%6, key, row[:1+m%2]...))
		}
	}
	return l
}

// some are a few entries, rising: their records' keys don't rise with them.
func some() []string {
	return []string{
		entryOf(1, "c", sample.Int(1)), entryOf(1, "a", sample.Int(2)), entryOf(1, "b", sample.Int(2), sample.Text("x")),
		entryOf(1, "b\x00", sample.Text("a")), entryOf(2, "a", sample.Int(1)), entryOf(6, "b", sample.Text("")),
	}
}

// badEntries are texts that are no entries.
func badEntries() []string {
	one := []api.Val{sample.Int(1)}
	l := []string{
		"", "\x00", "\x00\x01", "e", "\x00\x01\x00k", "\x01\x01" + sample.Entry(1, one, "k")[2:], "\x00" + sample.Entry(1, one, "k"), sample.Entry(1, one, "k")[1:],
		sample.Entry(0, one, "k"), sample.Entry(7, one, "k"), sample.Entry(255, one, "k"),
		sample.Entry(1, nil, "k"), sample.Entry(1, []api.Val{sample.Null()}, "k"), sample.Entry(1, []api.Val{sample.Int(1), sample.Null()}, "k"),
		sample.Entry(1, slices.Repeat(one, 3), "k"), sample.Entry(1, slices.Repeat(one, 5), "k"), sample.Entry(1, []api.Val{sample.Text(strings.Repeat("a", mostText+1))}, "k"),
		"\x00\x01\x04\x00k", "\x00\x01\x03a\x00\x01\x00k",
	}
	for _, key := range sample.BadKeys() {
		l = append(l, sample.Entry(1, one, key))
	}
	whole := sample.Entry(2, []api.Val{sample.Int(7), sample.Text("a")}, "k")
	for n := range len(whole) {
		l = append(l, whole[:n])
	}
	return l
}

// badVersions are numbers that no intent has.
func badVersions() []int {
	return []int{0, -1, -2, -5, mostNumber + 1, mostNumber + 2, -mostNumber, 1 << 41, 1 << 62, math.MaxInt, math.MaxInt - 1, math.MinInt, math.MinInt + 1}
}

// versions are such as intents have, rising.
func versions() []int {
	return []int{1, 2, 3, 255, 256, 1 << 32, 1<<32 + 1, mostNumber - 1, mostNumber}
}

// badIntents are such as aren't right.
func badIntents() []api.Intent {
	var l []api.Intent
	for n, s := range badEntries() {
		l = append(l, intent(s, 1+n, n%2 == 0))
	}
	for n, version := range badVersions() {
		l = append(l, intent(some()[n%6], version, n%2 == 0), intent("", version, true))
	}
	return append(l, api.Intent{})
}

// intents are right ones, none of the name of another.
func intents() []api.Intent {
	var l []api.Intent
	for n, s := range entries() {
		for m := range 1 + n%3 {
			l = append(l, intent(s, versions()[(n+m)%9], (n+m)%2 == 0))
		}
	}
	return l
}

// few are n intents of some entries, none of the name of another.
func few(n int) []api.Intent {
	var l []api.Intent
	for i := range n {
		l = append(l, intent(some()[i%6], 1+i/4, i%3 == 0))
	}
	return l
}

// sameName tells whether two intents have one name.
func sameName(a, b api.Intent) bool {
	return a.Entry == b.Entry && a.Version == b.Version
}

// named tells whether a list has an intent of the name of another one.
func named(l []api.Intent, i api.Intent) bool {
	return slices.ContainsFunc(l, func(other api.Intent) bool { return sameName(i, other) })
}

// found are the intents of a list that are found, in order.
func found(l []api.Intent, is func(i api.Intent) bool) []api.Intent {
	return slices.DeleteFunc(slices.Clone(l), func(i api.Intent) bool { return !is(i) })
}

// in are the intents of a list whose entries are in a range.
func in(l []api.Intent, r api.Range) []api.Intent {
	return found(l, func(i api.Intent) bool { return sample.InRange(r, i.Entry) })
}

// notIn are the others.
func notIn(l []api.Intent, r api.Range) []api.Intent {
	return found(l, func(i api.Intent) bool { return !sample.InRange(r, i.Entry) })
}

// without are the intents of a list whose names another one hasn't.
func without(l, done []api.Intent) []api.Intent {
	return found(l, func(i api.Intent) bool { return !named(done, i) })
}

// parted are the intents of a list whose records' keys are below a text, and the others.
func parted(l []api.Intent, at string) (low, high []api.Intent) {
	below := func(i api.Intent) bool { return strings.Compare(keyOf[i.Entry], at) < 0 }
	return found(l, below), found(l, func(i api.Intent) bool { return !below(i) })
}

// right tells whether an intent of those that are made here may wait.
func right(i api.Intent) bool {
	_, ok := keyOf[i.Entry]
	return ok && i.Version > 0 && i.Version <= mostNumber
}

// united are the intents of a list, and behind them those of another one whose names aren't there: of several of one name the first.
func united(l, more []api.Intent) []api.Intent {
	all := slices.Clone(l)
	for _, i := range more {
		if !named(all, i) {
			all = append(all, i)
		}
	}
	return all
}

// added is what has to wait in a box for at most most intents when others are added to those that wait, and what is answered to that.
func added(most int, l, more []api.Intent) ([]api.Intent, api.Errno) {
	all := united(l, more)
	switch {
	case !slices.Equal(more, found(more, right)):
		return l, api.ErrArg
	case len(all) > max(most, 0):
		return l, api.ErrFull
	}
	return all, api.OK
}

// latest is the last word on each entry of a list.
func latest(l []api.Intent) []api.Intent {
	var all []api.Intent
	for n, i := range l {
		if !slices.ContainsFunc(l[:n], func(x api.Intent) bool { return x.Entry == i.Entry && x.Version > i.Version }) &&
			!slices.ContainsFunc(l[n+1:], func(x api.Intent) bool { return x.Entry == i.Entry && x.Version >= i.Version }) {
			all = append(all, i)
		}
	}
	slices.SortFunc(all, func(a, b api.Intent) int { return strings.Compare(a.Entry, b.Entry) })
	return all
}

// name is how intents are told in a fault's text: how many there are, and the first ones.
func name(l ...api.Intent) string {
	return fmt.Sprintf("%d: %.400q", len(l), fmt.Sprint(l[:min(len(l), 6)]))
}

// box is one in which intents wait, for at most most of them.
func box(t *testing.T, most int, l ...api.Intent) *outbox.Box {
	t.Helper()
	b := outbox.New(most)
	checkAdd(t, b, l, api.OK)
	return b
}

func checkList(t *testing.T, call string, got, want []api.Intent) {
	t.Helper()
	if !slices.Equal(got, want) {
		t.Fatalf("%s = %s, not %s", call, name(got...), name(want...))
	}
}

func checkCount(t *testing.T, call string, got, want int) {
	t.Helper()
	if got != want {
		t.Fatalf("%s = %d, not %d", call, got, want)
	}
}

func checkAdd(t *testing.T, b *outbox.Box, l []api.Intent, want api.Errno) {
	t.Helper()
	if got := b.Add(l); got != want {
		t.Fatalf("Add(%s) = %d, not %d", name(l...), got, want)
	}
}

func checkDone(t *testing.T, b *outbox.Box, l []api.Intent, want int) {
	t.Helper()
	checkCount(t, "Done of "+name(l...), b.Done(l), want)
}

// checkBox asks a box for at most most intents all that can be asked without changing it.
func checkBox(t *testing.T, b *outbox.Box, most int, want []api.Intent) {
	t.Helper()
	checkCount(t, "Len", b.Len(), len(want))
	checkCount(t, "Room", b.Room(), max(most, 0)-len(want))
	for _, n := range []int{math.MinInt, -1, 0, 1, 2, len(want) - 1, len(want), len(want) + 1, math.MaxInt} {
		checkList(t, fmt.Sprintf("Due(%d)", n), b.Due(n), want[:min(max(n, 0), len(want))])
	}
	for _, r := range spans(want) {
		checkList(t, fmt.Sprintf("Of(%.100q)", r), b.Of(r), in(want, r))
	}
	// A name that waits needs no room, and doesn't come once more.
	for _, i := range want[:min(len(want), 50)] {
		checkAdd(t, b, []api.Intent{intent(i.Entry, i.Version, !i.Gone)}, api.OK)
	}
	checkList(t, "Due of all behind that", b.Due(len(want)), want)
}

// spans are ranges that matter to intents, at the edges of their entries too, and some that don't.
func spans(l []api.Intent) []api.Range {
	ends := []string{"", "\x00\x01", "\x00\x02", "\xff"}
	for _, i := range l[:min(len(l), 3)] {
		ends = append(ends, i.Entry, i.Entry+"\x00")
	}
	return append(sample.Ranges(ends...), from("\x00\x01\x03", "\x00\x06"), from("\x00\x03", "\x00\x03"))
}

// goesOn lets a box become another one in each way that there is.
func goesOn(b *outbox.Box) {
	b.Done(b.Due(1))
	b.Add([]api.Intent{intent(some()[0], mostNumber-7, true)})
	b.Drop(from("\x00\x01", "\x00\x02"))
	b.Add([]api.Intent{intent(some()[1], mostNumber-7, false)})
}
