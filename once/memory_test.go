package once_test

import (
	"runtime"
	"slices"
	"strings"
	"testing"
	"unsafe"

	"shelfmark/api"
	"shelfmark/once"
	"shelfmark/sample"
)

// lentText is a text whose memory may be written over: by spoil.
func lentText(s string) (text string, spoil func()) {
	b := append([]byte(s), 0)
	return unsafe.String(&b[0], len(s)), func() { sample.Spoil(b) }
}

// lent is a reply whose record lies in memory that may be written over, down to its texts: by spoil. Behind the record's length there is another value, which stays.
func lent(t *testing.T, reply api.Reply) (same api.Reply, check, spoil func()) {
	var spoils []func()
	rec := slices.Clone(reply.Rec)
	for i := range rec {
		text, spoil := lentText(rec[i].S)
		rec[i].S = text
		spoils = append(spoils, spoil)
	}
	inside, check := sample.InRoom(t, []api.Val(rec), sample.Text("behind"), sample.BadVals()[0])
	same = reply
	same.Rec = inside
	return same, check, func() {
		sample.Overwrite(inside, sample.Text("spoilt"))
		for _, spoil := range spoils {
			spoil()
		}
	}
}

// P17.5, R4

func TestRepliesThatAreKeptAreNotChangedAndNotKept(t *testing.T) {
	for _, reply := range replies() {
		tb := once.New()
		same, check, spoil := lent(t, reply)
		checkKeep(t, tb, 1, 3, same, api.OK)
		check()
		spoil()
		checkSame(t, tb, state{1: {0, []answer{{3, reply}}}})
	}
}

// Also where nothing comes of the call.
func TestRepliesThatAreRefusedAreNotChanged(t *testing.T) {
	tb := table(t, few())
	for _, reply := range append(badReplies(), replies()...) {
		same, check, spoil := lent(t, reply)
		tb.Keep(-1, 3, same)
		tb.Keep(1, 5, same)
		tb.Keep(1, 6, same)
		check()
		spoil()
	}
	checkSame(t, tb, few())
}

// What lies behind the length of lists that are empty is not taken over.
func TestEmptyListsAreNotKept(t *testing.T) {
	tb := once.New()
	all := []api.Val{sample.Text("a"), sample.Text("b")}
	rows := []api.Row{{Key: "a"}, {Key: "b"}}
	checkKeep(t, tb, 1, 3, api.Reply{Rec: all[:0], Rows: rows[:0]}, api.OK)
	got, _ := tb.Look(1, 3)
	_ = append(got.Rec, sample.Text("spoilt"))
	_ = append(got.Rows, api.Row{Key: "spoilt"})
	if all[0].S != "a" || rows[0].Key != "a" {
		t.Errorf("what was handed in became %v and %v", all, rows)
	}
	if cap(got.Rows) > 0 {
		t.Errorf("an answer has room for %d rows", cap(got.Rows))
	}
}

func TestTextsThatAreLoadedAreNotKept(t *testing.T) {
	for _, s := range states() {
		text, spoil := lentText(table(t, s).Save())
		tb := load(t, text)
		spoil()
		checkSame(t, tb, s)
	}
}

func TestWhatIsAnsweredIsNew(t *testing.T) {
	for _, s := range states() {
		tb := table(t, s)
		for client, m := range s {
			for _, a := range m.answers {
				one, _ := tb.Look(client, a.number)
				two, _ := tb.Look(client, a.number)
				sample.Overwrite(one.Rec, sample.Text("spoilt"))
				_ = append(one.Rec, sample.Text("spoilt"))
				if !same(two, a.reply) {
					t.Errorf("another answer is %s, not %s", name(two), name(a.reply))
				}
			}
			numbers := tb.Known(client)
			sample.Overwrite(numbers, -1)
			_ = append(numbers, -1)
		}
		checkSame(t, tb, s)
	}
}

// What was answered stays as it was, whatever is done behind it.
func TestAnswersStay(t *testing.T) {
	tb := table(t, few())
	numbers, saved := tb.Known(1), tb.Save()
	reply, _ := tb.Look(1, 6)
	for number := 12; number < 20; number++ {
		checkKeep(t, tb, 1, number, marked(number), api.OK)
	}
	if !slices.Equal(numbers, few()[1].known()) || !same(reply, few()[1].answers[0].reply) {
		t.Errorf("answers became %d and %s", numbers, name(reply))
	}
	checkSame(t, load(t, saved), few())
}

// texts are the texts of all records that a table answers.
func texts(tb *once.Table) []string {
	var l []string
	for _, number := range tb.Known(1) {
		reply, _ := tb.Look(1, number)
		for _, v := range reply.Rec {
			l = append(l, v.S)
		}
	}
	return l
}

func TestTextsOfAnswersAreApart(t *testing.T) {
	line := "one text"
	rec := api.Record{sample.Text(line), sample.Text(line[:3]), sample.Text(line), sample.Text(line[2:])}
	all := []string{line, line[2:]}
	one, two := once.New(), once.New()
	for number := range 3 {
		checkKeep(t, one, 1, number+1, api.Reply{Rec: rec}, api.OK)
		checkKeep(t, two, 1, number+2, api.Reply{Rec: rec}, api.OK)
	}
	for _, tb := range []*once.Table{one, two, one.Copy(), once.Join(one, two), once.Join(two, one), load(t, one.Save())} {
		all = append(all, texts(tb)...)
		all = append(all, texts(tb)...)
		all = append(all, tb.Save(), tb.Save())
	}
	at := map[*byte]int{}
	for i, s := range all {
		at[unsafe.StringData(s)] = i
	}
	if len(at) != len(all) {
		t.Errorf("%d texts stand in %d places of memory", len(all), len(at))
	}
}

// heap is how much memory is in use.
func heap() int {
	runtime.GC()
	var m runtime.MemStats
	runtime.ReadMemStats(&m)
	return int(m.HeapAlloc)
}

// What is kept is no more than what is remembered.
func TestWhatGoesIsNotKept(t *testing.T) {
	rec := slices.Repeat(api.Record{sample.Text(strings.Repeat("k", api.MaxText))}, api.MaxFields)
	for way, goes := range []func(number int, tb *once.Table) *once.Table{
		func(_ int, tb *once.Table) *once.Table { return tb },
		func(_ int, tb *once.Table) *once.Table { return tb.Copy() },
		func(_ int, tb *once.Table) *once.Table { return once.Join(tb, tb) },
		func(number int, tb *once.Table) *once.Table {
			// Nothing that is refused is kept.
			tb.Keep(1, 1, api.Reply{Rec: rec})
			tb.Keep(number+2, mostNumber+1, api.Reply{Rec: rec})
			tb.Look(number+2, 1)
			return tb
		},
	} {
		tb := once.New()
		before := heap()
		for number := range 20000 {
			checkKeep(t, tb, 1, number+1, api.Reply{Rec: rec}, api.OK)
			tb = goes(number, tb)
		}
		if more := heap() - before; more > 1<<20 {
			t.Errorf("way %d: a table of four answers keeps %d bytes", way, more)
		}
		checkKnown(t, tb, 1, 19997, 19998, 19999, 20000)
	}
}
