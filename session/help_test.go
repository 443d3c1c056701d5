package session_test

import (
	"fmt"
	"math"
	"slices"
	"strings"
	"testing"

	"shelfmark/api"
	"shelfmark/sample"
	"shelfmark/session"
)

// The limits, as the chapter tells them.
const (
	mostBytes   = 65536
	mostWaiting = 256
	mostNumber  = 1 << 40
)

// long is a text of n bytes.
func long(n int) string {
	return strings.Repeat("k", n)
}

// bodies are texts that may be sent, none of them like another.
func bodies() []string {
	return []string{"", "a", "b", "ab", "\x00", "\x00\x00", "\xff", "\xff\xfe", "ä", "a\x00b", "\x80", "\x01a", long(127), long(128), string(sample.Bytes(300)), long(16383), long(16384), long(mostBytes - 1), long(mostBytes)}
}

// tooLong are texts that may not be sent.
func tooLong() []string {
	return []string{long(mostBytes + 1), long(2 * mostBytes), strings.Repeat("\x00", mostBytes+1), strings.Repeat("ä", mostBytes/2) + "k", long(1 << 20)}
}

// named are n texts that tell which they are.
func named(n int) []string {
	var l []string
	for i := range n {
		l = append(l, fmt.Sprint("text ", i+1))
	}
	return l
}

// farNumbers are numbers that no text ever has.
func farNumbers() []int {
	return []int{0, -1, -2, -mostNumber, math.MinInt, math.MinInt + 1, math.MinInt + mostNumber, mostNumber + 1, mostNumber + 2, 1<<40 + 1<<32, 1 << 62, math.MaxInt - 1, math.MaxInt}
}

// state is what an end has to be.
type state struct {
	mark, sent int
	waits      []string
}

// form is what Save has to tell of it.
func (s state) form() string {
	return sample.NumForm(s.mark) + sample.NumForm(s.sent) + sample.TextsForm(s.waits...)
}

// items are the texts that wait, under their numbers.
func (s state) items() []session.Item {
	var l []session.Item
	for i, body := range s.waits {
		l = append(l, session.Item{Number: s.sent - len(s.waits) + i + 1, Body: body})
	}
	return l
}

// states are such as ends may be in.
func states() []state {
	l := []state{{}, {mark: 3}, {mark: mostNumber}, {sent: 3}, {sent: mostNumber}, {mark: mostNumber, sent: mostNumber}}
	for _, waits := range [][]string{{""}, {"a"}, {"", ""}, {"a", "a", "a"}, {"b", "a", ""}, bodies(), named(mostWaiting - 1), named(mostWaiting)} {
		n := len(waits)
		l = append(l, state{0, n, waits}, state{1, n + 1, waits}, state{300, n + 300, waits}, state{mostNumber - 1, mostNumber - 1, waits}, state{mostNumber, mostNumber, waits})
	}
	return l
}

// name is how a text or an answer is told in a fault's text.
func name(x any) string {
	return fmt.Sprintf("%.200q", fmt.Sprintf("%+v", x))
}

// load is the end that is in a state.
func load(t *testing.T, s state) *session.End {
	t.Helper()
	e, err := session.Load(s.form())
	if e == nil || err != api.OK {
		t.Fatalf("Load of %s = %v, %d", name(s), e != nil, err)
	}
	return e
}

// checkEnd asks an end all that can be asked without changing it.
func checkEnd(t *testing.T, e *session.End, want state) {
	t.Helper()
	if got := e.Mark(); got != want.mark {
		t.Fatalf("Mark = %d, not %d", got, want.mark)
	}
	if got := e.Waiting(); got != len(want.waits) {
		t.Fatalf("Waiting = %d, not %d", got, len(want.waits))
	}
	n := len(want.waits)
	for _, most := range []int{n, 1, n + 1} {
		checkPost(t, e, most, want)
	}
	if got := e.Save(); got != want.form() {
		t.Fatalf("Save = %.100x, not %.100x", got, want.form())
	}
}

func checkPost(t *testing.T, e *session.End, n int, s state) {
	t.Helper()
	want := s.items()
	if n < len(want) {
		want = want[:max(n, 0)]
	}
	if got := e.Post(n); !slices.Equal(got, want) {
		t.Fatalf("Post(%d) = %s, not %s", n, name(got), name(want))
	}
}

func checkSend(t *testing.T, e *session.End, body string, want int, err api.Errno) {
	t.Helper()
	if got, gotErr := e.Send(body); got != want || gotErr != err {
		t.Fatalf("Send of %d bytes = %d, %d, not %d, %d", len(body), got, gotErr, want, err)
	}
}

func checkTake(t *testing.T, e *session.End, number int, body string, want bool) {
	t.Helper()
	if got := e.Take(number, body); got != want {
		t.Fatalf("Take(%d) of %d bytes = %t, not %t", number, len(body), got, want)
	}
}

func checkAcked(t *testing.T, e *session.End, mark, want int) {
	t.Helper()
	if got := e.Acked(mark); got != want {
		t.Fatalf("Acked(%d) = %d, not %d", mark, got, want)
	}
}

// checkLoad asks for the error of a text, or for the end whose Save it is.
func checkLoad(t *testing.T, s string, want api.Errno) {
	t.Helper()
	e, got := session.Load(s)
	if got != want || (e != nil) != (want == api.OK) {
		t.Fatalf("Load of %d bytes %.60x = %t, %d, not %d", len(s), s, e != nil, got, want)
	}
	if e != nil && e.Save() != s {
		t.Fatalf("Save of what %.60x is = %.60x", s, e.Save())
	}
}
