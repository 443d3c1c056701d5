package once_test

import (
	"cmp"
	"fmt"
	"maps"
	"math"
	"slices"
	"testing"

	"shelfmark/api"
	"shelfmark/once"
	"shelfmark/sample"
)

// The limits, as the chapter tells them.
const (
	window     = 4
	mostNumber = 1 << 40
)

// answer is what was answered to a request.
type answer struct {
	number int
	reply  api.Reply
}

// memory is what has to be remembered of a client: its answers by rising numbers.
type memory struct {
	floor   int
	answers []answer
}

// state is what a table has to remember of clients: of each that is there at least one answer.
type state map[int]memory

// tooGreat are numbers that neither clients nor requests nor replies have.
func tooGreat() []int {
	return []int{mostNumber + 1, mostNumber + 2, 1<<40 + 1<<32, 1 << 41, 1 << 62, math.MaxInt - 1, math.MaxInt}
}

// belowZero are others.
func belowZero() []int {
	return []int{-1, -2, -5, -mostNumber, -1 << 32, -1<<32 + 1, math.MinInt, math.MinInt + 1, math.MinInt + mostNumber}
}

// badClients are numbers that no client has.
func badClients() []int {
	return append(belowZero(), tooGreat()...)
}

// badNumbers are numbers that no request has.
func badNumbers() []int {
	return append(badClients(), 0)
}

// clients are numbers that clients have, rising.
func clients() []int {
	return []int{0, 1, 2, 3, 4, 127, 128, 1 << 16, 1 << 32, 1<<32 + 1, mostNumber - 1, mostNumber}
}

// numbers are such as requests have, rising.
func numbers() []int {
	return clients()[1:]
}

// replies are such as may be remembered, none of them like another.
func replies() []api.Reply {
	l := []api.Reply{{}, {There: true}, {Code: 1}, {Id: 1}, {Code: mostNumber}, {Id: mostNumber}, {Code: mostNumber, There: true, Id: mostNumber}}
	for e := api.ErrShort; e <= api.ErrMany+2; e++ {
		l = append(l, api.Reply{Code: e}, api.Reply{Code: e, There: true, Id: int(e) + 1})
	}
	for i, r := range sample.Records() {
		l = append(l, api.Reply{Rec: r, There: i%2 == 0, Code: api.Errno(i % 11), Id: i})
	}
	return l
}

// badReplies are such as may not be remembered.
func badReplies() []api.Reply {
	var l []api.Reply
	for _, n := range append(belowZero(), tooGreat()...) {
		l = append(l, api.Reply{Code: api.Errno(n)}, api.Reply{Id: n}, api.Reply{Code: api.Errno(n), There: true, Id: n, Rec: api.Record{sample.Int(1)}})
	}
	for _, r := range append(sample.LargeRecords(), sample.BadRecords()...) {
		l = append(l, api.Reply{Rec: r}, api.Reply{Rec: r, Code: api.ErrClash, There: true})
	}
	row := api.Row{Key: "k", Rec: api.Record{sample.Int(1)}}
	return append(l, api.Reply{Rows: []api.Row{row}}, api.Reply{Rows: []api.Row{{}}}, api.Reply{Rows: []api.Row{row, row}, There: true}, api.Reply{Rows: make([]api.Row, 1000)})
}

// marked is a reply that is known again by its Id and its record.
func marked(n int) api.Reply {
	return api.Reply{Code: api.ErrClash, There: n%2 == 0, Id: n, Rec: api.Record{sample.Int(n), sample.Text(fmt.Sprint("reply ", n%1000))}}
}

// answersTo are answers to some requests, by rising numbers; each is known again, and by its Id also whose it is.
func answersTo(whose int, numbers ...int) []answer {
	var l []answer
	for _, n := range numbers {
		l = append(l, answer{n, marked(whose + n%1000)})
	}
	return l
}

// name is how a thing is told in a fault's text.
func name(x any) string {
	return fmt.Sprintf("%.200q", fmt.Sprintf("%+v", x))
}

// same takes a list that is nil for the same as one without elements.
func same(a, b api.Reply) bool {
	return a.Code == b.Code && a.There == b.There && a.Id == b.Id && slices.Equal(a.Rec, b.Rec) && len(a.Rows) == 0 && len(b.Rows) == 0
}

// find is the answer to a request, and whether it is remembered.
func (m memory) find(number int) (api.Reply, bool) {
	for _, a := range m.answers {
		if a.number == number {
			return a.reply, true
		}
	}
	return api.Reply{}, false
}

// known are the numbers of the answers.
func (m memory) known() []int {
	var l []int
	for _, a := range m.answers {
		l = append(l, a.number)
	}
	return l
}

// with is a memory into which an answer has come, to a request that is neither too old nor answered.
func (m memory) with(number int, reply api.Reply) memory {
	l := append(slices.Clone(m.answers), answer{number, reply})
	slices.SortFunc(l, func(a, b answer) int { return cmp.Compare(a.number, b.number) })
	if len(l) > window {
		return memory{l[0].number, l[1:]}
	}
	return memory{m.floor, l}
}

// joined is what two memories of one client have to come to.
func joined(a, b memory) memory {
	m := memory{floor: max(a.floor, b.floor)}
	for _, n := range slices.Compact(slices.Sorted(slices.Values(append(a.known(), b.known()...)))) {
		if n <= m.floor {
			continue
		}
		reply, ok := a.find(n)
		if !ok {
			reply, _ = b.find(n)
		}
		m.answers = append(m.answers, answer{n, reply})
	}
	if over := len(m.answers) - window; over > 0 {
		m.floor = m.answers[over-1].number
		m.answers = m.answers[over:]
	}
	return m
}

// joinedStates is what two tables have to come to.
func joinedStates(a, b state) state {
	s := state{}
	for _, client := range append(slices.Collect(maps.Keys(a)), slices.Collect(maps.Keys(b))...) {
		s[client] = joined(a[client], b[client])
	}
	return s
}

// table is one that remembers what is told.
func table(t *testing.T, s state) *once.Table {
	t.Helper()
	tb := once.New()
	for _, client := range slices.Sorted(maps.Keys(s)) {
		if floor := s[client].floor; floor > 0 {
			checkKeep(t, tb, client, floor, marked(7), api.OK)
		}
		for _, a := range s[client].answers {
			checkKeep(t, tb, client, a.number, a.reply, api.OK)
		}
	}
	return tb
}

func checkKeep(t *testing.T, tb *once.Table, client, number int, reply api.Reply, want api.Errno) {
	t.Helper()
	if got := tb.Keep(client, number, reply); got != want {
		t.Fatalf("Keep(%d, %d, %s) = %d, not %d", client, number, name(reply), got, want)
	}
}

func checkLook(t *testing.T, tb *once.Table, client, number int, want api.Reply, e api.Errno) {
	t.Helper()
	if got, gotErr := tb.Look(client, number); gotErr != e || !same(got, want) {
		t.Fatalf("Look(%d, %d) = %s, %d, not %s, %d", client, number, name(got), gotErr, name(want), e)
	}
}

func checkFloor(t *testing.T, tb *once.Table, client, want int) {
	t.Helper()
	if got := tb.Floor(client); got != want {
		t.Fatalf("Floor(%d) = %d, not %d", client, got, want)
	}
}

func checkKnown(t *testing.T, tb *once.Table, client int, want ...int) {
	t.Helper()
	if got := tb.Known(client); !slices.Equal(got, want) {
		t.Fatalf("Known(%d) = %d, not %d", client, got, want)
	}
}

// checkClient asks all that can be asked of one client.
func checkClient(t *testing.T, tb *once.Table, client int, m memory) {
	t.Helper()
	checkFloor(t, tb, client, m.floor)
	checkKnown(t, tb, client, m.known()...)
	asked := []int{1, 2, 3, mostNumber - 1, mostNumber}
	for _, n := range append(m.known(), m.floor) {
		asked = append(asked, n-2, n-1, n, n+1, n+2)
	}
	for _, n := range asked {
		if n < 1 || n > mostNumber {
			checkLook(t, tb, client, n, api.Reply{}, api.ErrArg)
		} else if reply, ok := m.find(n); ok {
			checkLook(t, tb, client, n, reply, api.OK)
		} else if n <= m.floor {
			checkLook(t, tb, client, n, api.Reply{}, api.ErrOld)
		} else {
			checkLook(t, tb, client, n, api.Reply{}, api.ErrNone)
		}
	}
}

// checkTable asks a table all that can be asked, but its Save.
func checkTable(t *testing.T, tb *once.Table, want state) {
	t.Helper()
	for client, m := range want {
		checkClient(t, tb, client, m)
	}
	for _, client := range append(clients(), 5, 77, 1<<39) {
		if _, ok := want[client]; !ok {
			checkClient(t, tb, client, memory{})
		}
	}
	for _, client := range []int{-1, math.MinInt, mostNumber + 1, math.MaxInt} {
		checkFloor(t, tb, client, 0)
		checkKnown(t, tb, client)
		checkLook(t, tb, client, 1, api.Reply{}, api.ErrArg)
	}
}

// checkSame asks a table also whether it is saved as another one is that was made to be the same.
func checkSame(t *testing.T, tb *once.Table, want state) {
	t.Helper()
	checkTable(t, tb, want)
	if got, other := tb.Save(), table(t, want).Save(); got != other {
		t.Fatalf("Save = %.100x, and that of a table that is the same %.100x", got, other)
	}
}
