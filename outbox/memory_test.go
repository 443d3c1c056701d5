package outbox_test

import (
	"runtime"
	"slices"
	"strings"
	"testing"
	"unsafe"

	"shelfmark/api"
	"shelfmark/outbox"
	"shelfmark/sample"
)

// lentText is a text whose memory may be written over: by spoil.
func lentText(s string) (text string, spoil func()) {
	b := append([]byte(s), 0)
	return unsafe.String(&b[0], len(s)), func() { sample.Spoil(b) }
}

// lent are the same intents, with others behind the list's length, and a test that all of them are as they were; by spoil they are written over, down to their texts.
func lent(t *testing.T, l []api.Intent) (same []api.Intent, check, spoil func()) {
	var spoils []func()
	for _, i := range l {
		text, spoil := lentText(i.Entry)
		same = append(same, intent(text, i.Version, i.Gone))
		spoils = append(spoils, spoil)
	}
	// Were they read, the list would be refused, or one more intent would come.
	same, check = sample.InRoom(t, same, intent(some()[0], 77, true), intent("behind", -1, false))
	return same, check, func() {
		sample.Overwrite(same, intent(some()[0], 78, true))
		for _, spoil := range spoils {
			spoil()
		}
	}
}

// lists are such as wait in outboxes.
func lists() [][]api.Intent {
	return [][]api.Intent{nil, {}, few(1), few(7), few(24), intents()}
}

// P18.5, R4

func TestWhatIsAddedIsNotChangedAndNotKept(t *testing.T) {
	for _, l := range lists() {
		b := outbox.New(len(l))
		same, check, spoil := lent(t, l)
		checkAdd(t, b, same, api.OK)
		checkAdd(t, b, same, api.OK)
		check()
		spoil()
		checkBox(t, b, len(l), l)
		// Names are not kept either.
		checkDone(t, b, l, len(l))
		checkAdd(t, b, l, api.OK)
		checkBox(t, b, len(l), l)
	}
}

func TestWhatIsRefusedIsNotChangedAndNotKept(t *testing.T) {
	l := few(4)
	b := box(t, 4, l...)
	for _, more := range [][]api.Intent{few(5), few(24), append(few(4), badIntents()...), badIntents()} {
		same, check, spoil := lent(t, more)
		if b.Add(same) == api.OK {
			t.Errorf("Add(%s) is OK", name(more...))
		}
		check()
		spoil()
		checkBox(t, b, 4, l)
	}
}

func TestWhatIsDoneIsNotChangedAndNotKept(t *testing.T) {
	all := few(24)
	for _, done := range append(lists(), badIntents(), append(badIntents(), all[3:9]...)) {
		b := box(t, 24, all...)
		left := without(all, done)
		same, check, spoil := lent(t, done)
		checkDone(t, b, same, len(all)-len(left))
		check()
		spoil()
		checkBox(t, b, 24, left)
		checkDone(t, b, done, 0)
	}
}

func TestWhatLatestIsAskedOfIsNotChangedAndNotKept(t *testing.T) {
	for _, l := range append(lists(), badIntents()) {
		want := latest(l)
		same, check, spoil := lent(t, l)
		got := outbox.Latest(same)
		check()
		spoil()
		checkList(t, "Latest of "+name(l...), got, want)
	}
}

func TestTextsThatAreAskedForAreNotKept(t *testing.T) {
	l := few(24)
	b := box(t, 24, l...)
	for _, r := range spans(l) {
		lo, spoilLo := lentText(r.Lo)
		hi, spoilHi := lentText(r.Hi)
		of := b.Of(from(lo, hi))
		one, two := b.Cut(lo)
		dropped := box(t, 24, l...)
		dropped.Drop(from(lo, hi))
		spoilLo()
		spoilHi()
		checkList(t, "Of", of, in(l, r))
		low, high := parted(l, r.Lo)
		checkBox(t, one, 24, low)
		checkBox(t, two, 24, high)
		checkBox(t, dropped, 24, notIn(l, r))
	}
	checkBox(t, b, 24, l)
}

func TestWhatIsAnsweredIsNew(t *testing.T) {
	spoilt := intent("spoilt", -1, true)
	for _, l := range lists() {
		b := box(t, len(l), l...)
		for _, n := range []int{0, 1, len(l) / 2, len(l), len(l) + 1} {
			other := b.Due(n)
			for _, answer := range [][]api.Intent{b.Due(n), b.Of(api.Range{}), b.Of(from("\x00\x02", "")), outbox.Latest(l)} {
				sample.Overwrite(answer, spoilt)
				_ = append(answer, spoilt)
				_ = append(answer[:0], spoilt)
			}
			checkList(t, "another answer", other, l[:min(n, len(l))])
		}
		checkBox(t, b, len(l), l)
		// Also where nothing is taken out or comes.
		sample.Overwrite(b.Due(len(l)), spoilt)
		checkDone(t, b, nil, 0)
		checkCount(t, "Drop", b.Drop(from("b", "a")), 0)
		checkBox(t, b, len(l), l)
	}
}

// What was answered stays as it was, whatever is done behind it.
func TestAnswersStay(t *testing.T) {
	l := few(24)
	for _, goes := range []func(b *outbox.Box){
		goesOn,
		func(b *outbox.Box) { b.Done(l) },
		func(b *outbox.Box) { b.Done(l[2:3]) },
		func(b *outbox.Box) { b.Drop(api.Range{}) },
		func(b *outbox.Box) { b.Add(intents()) },
	} {
		b := box(t, 1<<20, l...)
		due, of := b.Due(9), b.Of(from("\x00\x01", "\x00\x02"))
		goes(b)
		checkList(t, "what was due", due, l[:9])
		checkList(t, "what was in a range", of, in(l, from("\x00\x01", "\x00\x02")))
	}
}

func TestTextsOfAnswersAreApart(t *testing.T) {
	l := slices.Concat(few(24), few(5))
	one := box(t, 40, l...)
	two := box(t, 40, l...)
	low, high := one.Cut("b")
	joint, e := outbox.Join(one, two)
	if e != api.OK {
		t.Fatalf("Join = %d", e)
	}
	all := slices.Concat(few(24), outbox.Latest(l), outbox.Latest(l))
	for _, b := range []*outbox.Box{one, two, low, high, joint} {
		all = slices.Concat(all, b.Due(40), b.Due(1), b.Due(40), b.Of(api.Range{}), b.Of(from("\x00\x01", "\x00\x02")))
	}
	at := map[*byte]int{}
	for i, x := range all {
		at[unsafe.StringData(x.Entry)] = i
	}
	if len(at) != len(all) {
		t.Errorf("%d texts stand in %d places of memory", len(all), len(at))
	}
}

// R3

func TestNilAndNoElementsAreTheSame(t *testing.T) {
	for _, none := range [][]api.Intent{nil, {}, few(3)[:0]} {
		b := box(t, 3, few(3)...)
		checkAdd(t, b, none, api.OK)
		checkDone(t, b, none, 0)
		checkBox(t, b, 3, few(3))
		if got := outbox.Latest(none); len(got) != 0 || cap(got) != 0 {
			t.Errorf("Latest of none has %d elements, and room for %d", len(got), cap(got))
		}
	}
}

// heap is how much memory is in use.
func heap() int {
	runtime.GC()
	var m runtime.MemStats
	runtime.ReadMemStats(&m)
	return int(m.HeapAlloc)
}

// pieceOf is an entry that is a piece of a great text, which is kept as long as the piece is.
func pieceOf(e string) string {
	const great = 1 << 20
	return (e + strings.Repeat("k", great))[:len(e)]
}

func TestNoMoreThanTheEntriesIsKept(t *testing.T) {
	const many = 60
	b := outbox.New(many)
	before := heap()
	for n := range many {
		i := intent(pieceOf(some()[n%6]), 1+n, false)
		checkAdd(t, b, []api.Intent{i, i}, api.OK)
		checkAdd(t, b, []api.Intent{i}, api.OK)
		checkDone(t, b, []api.Intent{intent(i.Entry, mostNumber, false)}, 0)
	}
	var l []api.Intent
	for n := range many {
		l = append(l, outbox.Latest([]api.Intent{intent(pieceOf(some()[n%6]), 1, false)})...)
	}
	if more := heap() - before; more > 1<<20 {
		t.Errorf("%d intents keep %d bytes", many, more)
	}
	checkCount(t, "Len", b.Len(), many)
	checkCount(t, "how many there are", len(l), many)
}

// What is kept is no more than what waits.
func TestWhatGoesIsNotKept(t *testing.T) {
	for way, goes := range []func(b *outbox.Box) *outbox.Box{
		func(b *outbox.Box) *outbox.Box { b.Done(b.Due(40)); return b },
		func(b *outbox.Box) *outbox.Box { b.Drop(api.Range{}); return b },
		func(b *outbox.Box) *outbox.Box {
			for b.Len() > 0 {
				b.Done(b.Due(3))
			}
			return b
		},
		func(b *outbox.Box) *outbox.Box { low, _ := b.Cut(""); return low },
		func(b *outbox.Box) *outbox.Box { j, _ := outbox.Join(outbox.New(40), b); j.Done(b.Due(40)); return j },
	} {
		b := outbox.New(40)
		before := heap()
		for n := range 2000 {
			for m := range 40 {
				checkAdd(t, b, []api.Intent{intent(some()[m%6], 1+n*40+m, m%2 == 0)}, api.OK)
			}
			b = goes(b)
		}
		if more := heap() - before; more > 1<<20 {
			t.Errorf("way %d: an empty outbox keeps %d bytes", way, more)
		}
		checkBox(t, b, 40, nil)
	}
}
