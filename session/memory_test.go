package session_test

import (
	"runtime"
	"slices"
	"testing"
	"unsafe"

	"shelfmark/api"
	"shelfmark/sample"
	"shelfmark/session"
)

// lent is a text whose memory may be written over: by spoil.
func lent(s string) (text string, spoil func()) {
	b := append([]byte(s), 0)
	return unsafe.String(&b[0], len(s)), func() { sample.Spoil(b) }
}

// R4

func TestTextsThatAreSentAreNotKept(t *testing.T) {
	for _, body := range bodies() {
		text, spoil := lent(body)
		e := session.New()
		checkSend(t, e, text, 1, api.OK)
		spoil()
		checkEnd(t, e, state{sent: 1, waits: []string{body}})
	}
}

func TestTextsThatAreTakenAreNotKept(t *testing.T) {
	text, spoil := lent("a text")
	e := load(t, state{sent: 1, waits: []string{"b"}})
	checkTake(t, e, 1, text, true)
	spoil()
	checkEnd(t, e, state{1, 1, []string{"b"}})
}

func TestTextsThatAreLoadedAreNotKept(t *testing.T) {
	for _, s := range states() {
		text, spoil := lent(s.form())
		e, err := session.Load(text)
		spoil()
		if err != api.OK {
			t.Fatalf("Load of %s = %d", name(s), err)
		}
		checkEnd(t, e, s)
	}
}

func TestWhatIsPostedIsNew(t *testing.T) {
	s := state{mark: 3, sent: 9, waits: named(7)}
	e := load(t, s)
	for n := range 9 {
		one, two := e.Post(n), e.Post(n)
		sample.Overwrite(one, session.Item{Number: -1, Body: "spoilt"})
		_ = append(one, session.Item{Number: -2, Body: "spoilt"})
		if want := s.items()[:min(n, 7)]; !slices.Equal(two, want) {
			t.Errorf("another answer is %s, not %s", name(two), name(want))
		}
		checkEnd(t, e, s)
	}
}

// What was answered stays as it was, whatever is done behind it.
func TestAnswersStay(t *testing.T) {
	s := state{mark: 3, sent: 9, waits: named(7)}
	e := load(t, s)
	posted, saved := e.Post(7), e.Save()
	checkAcked(t, e, 5, 3)
	for range 5 {
		e.Send("other")
	}
	checkTake(t, e, 4, "other", true)
	if !slices.Equal(posted, s.items()) || saved != s.form() {
		t.Errorf("answers became %s and %x", name(posted), saved)
	}
	checkEnd(t, load(t, s), s)
}

func TestTextsOfAnswersAreApart(t *testing.T) {
	line := "one text"
	e := session.New()
	for n := 2; n <= len(line); n++ {
		checkSend(t, e, line[:n], n-1, api.OK)
	}
	loaded, _ := session.Load(e.Save())
	all := []string{line}
	for _, end := range []*session.End{e, loaded} {
		for _, item := range append(end.Post(100), end.Post(3)...) {
			all = append(all, item.Body)
		}
		all = append(all, end.Save(), end.Save())
	}
	at := map[*byte]int{}
	for i, s := range all {
		at[unsafe.StringData(s)] = i
	}
	if len(at) != len(all) {
		t.Errorf("%d texts stand in %d places of memory", len(all), len(at))
	}
}

func TestEndsOfOneSaveAreApart(t *testing.T) {
	s := state{mark: 3, sent: 9, waits: named(7)}
	form := s.form()
	one, _ := session.Load(form)
	two, _ := session.Load(form)
	checkSend(t, one, "one", 10, api.OK)
	checkSend(t, two, "two", 10, api.OK)
	checkAcked(t, one, 9, 7)
	checkTake(t, one, 4, "x", true)
	checkEnd(t, one, state{4, 10, []string{"one"}})
	checkEnd(t, two, state{3, 10, append(named(7), "two")})
}

// heap is how much memory is in use.
func heap() int {
	runtime.GC()
	var m runtime.MemStats
	runtime.ReadMemStats(&m)
	return int(m.HeapAlloc)
}

func TestWhatWaitsNoMoreIsNotKept(t *testing.T) {
	e, body := session.New(), long(mostBytes)
	before := heap()
	for i := range mostWaiting {
		checkSend(t, e, body, i+1, api.OK)
	}
	checkAcked(t, e, mostWaiting-1, mostWaiting-1)
	if more := heap() - before; more > mostWaiting*mostBytes/2 {
		t.Errorf("an end in which one text waits keeps %d bytes", more)
	}
	checkEnd(t, e, state{sent: mostWaiting, waits: []string{body}})
}
