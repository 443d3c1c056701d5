package once_test

import (
	"slices"
	"testing"

	"shelfmark/api"
	"shelfmark/once"
	"shelfmark/sample"
)

// P17.1

func TestANewTableRemembersNothing(t *testing.T) {
	tb := once.New()
	for _, client := range clients() {
		for _, number := range numbers() {
			checkLook(t, tb, client, number, api.Reply{}, api.ErrNone)
		}
	}
	checkSame(t, tb, nil)
}

// few are the first answers of a client, of which the one to the floor is too old.
func few() state {
	return state{1: {5, answersTo(0, 6, 7, 9, 11)}, 3: {0, answersTo(0, 1, 300)}, 0: {0, answersTo(0, 2)}}
}

func TestLookOfNumbersThatMayNotBe(t *testing.T) {
	for _, s := range []state{nil, few()} {
		tb := table(t, s)
		for _, client := range badClients() {
			for _, number := range append(badNumbers(), numbers()...) {
				checkLook(t, tb, client, number, api.Reply{}, api.ErrArg)
			}
		}
		for _, number := range badNumbers() {
			for _, client := range clients() {
				checkLook(t, tb, client, number, api.Reply{}, api.ErrArg)
			}
		}
	}
}

func TestLookAtTheEdgesOfNumbers(t *testing.T) {
	for _, client := range clients() {
		for _, number := range numbers() {
			s := state{client: {0, answersTo(0, number)}}
			checkSame(t, table(t, s), s)
		}
	}
}

func TestLookOfWhatIsTooOld(t *testing.T) {
	tb := table(t, few())
	for number := 1; number <= 5; number++ {
		checkLook(t, tb, 1, number, api.Reply{}, api.ErrOld)
	}
	for _, number := range []int{8, 10, 12, 300, mostNumber} {
		checkLook(t, tb, 1, number, api.Reply{}, api.ErrNone)
	}
	// Of other clients nothing is too old.
	checkLook(t, tb, 3, 2, api.Reply{}, api.ErrNone)
	checkLook(t, tb, 2, 5, api.Reply{}, api.ErrNone)
}

// P17.2

func TestKeepOfAllRepliesThatMayBe(t *testing.T) {
	for i, reply := range replies() {
		tb := once.New()
		checkKeep(t, tb, 2, 300, reply, api.OK)
		checkSame(t, tb, state{2: {0, []answer{{300, reply}}}})
		// Behind others, so that it comes with a floor.
		tb = table(t, few())
		checkKeep(t, tb, 1, 12, reply, api.OK)
		want := few()
		want[1] = memory{6, append(answersTo(0, 7, 9, 11), answer{12, reply})}
		checkSame(t, tb, want)
		if t.Failed() {
			t.Fatalf("reply %d", i)
		}
	}
}

// A reply without a record has none, however the empty list is handed in; and without rows too.
func TestKeepOfRepliesWithEmptyLists(t *testing.T) {
	for _, reply := range []api.Reply{{Rec: api.Record{}}, {Rec: make(api.Record, 0, 9)}, {Rows: []api.Row{}}, {Rec: api.Record{}, Rows: make([]api.Row, 0, 9)}} {
		tb := once.New()
		checkKeep(t, tb, 2, 3, reply, api.OK)
		checkSame(t, tb, state{2: {0, []answer{{3, api.Reply{}}}}})
	}
}

func TestKeepOfRepliesThatMayNotBe(t *testing.T) {
	for _, reply := range badReplies() {
		tb := once.New()
		checkKeep(t, tb, 1, 1, reply, api.ErrArg)
		checkSame(t, tb, nil)
		tb = table(t, few())
		// Also of requests that are too old, or answered, or may not be: ErrArg is named first.
		for _, number := range []int{1, 5, 6, 8, 11, 12, 0, -1, mostNumber, mostNumber + 1} {
			checkKeep(t, tb, 1, number, reply, api.ErrArg)
		}
		checkTable(t, tb, few())
	}
}

func TestKeepOfNumbersThatMayNotBe(t *testing.T) {
	for _, s := range []state{nil, few()} {
		tb := table(t, s)
		for _, client := range badClients() {
			for _, number := range append(badNumbers(), numbers()...) {
				checkKeep(t, tb, client, number, api.Reply{}, api.ErrArg)
			}
		}
		for _, number := range badNumbers() {
			for _, client := range clients() {
				checkKeep(t, tb, client, number, marked(1), api.ErrArg)
			}
		}
		checkSame(t, tb, s)
	}
}

func TestKeepOfWhatIsTooOld(t *testing.T) {
	tb := table(t, few())
	for number := 1; number <= 5; number++ {
		checkKeep(t, tb, 1, number, marked(99), api.ErrOld)
	}
	checkSame(t, tb, few())
}

// What was answered first stays, whether the reply is the same or another one.
func TestKeepOfWhatIsRemembered(t *testing.T) {
	tb := table(t, few())
	for client, m := range few() {
		for _, a := range m.answers {
			checkKeep(t, tb, client, a.number, a.reply, api.ErrThere)
			checkKeep(t, tb, client, a.number, api.Reply{}, api.ErrThere)
			checkKeep(t, tb, client, a.number, marked(99), api.ErrThere)
		}
	}
	checkSame(t, tb, few())
}

func TestTheLeastGoesAsTheFifthComes(t *testing.T) {
	tb, want := once.New(), memory{}
	for _, number := range []int{20, 5, 30, 10, 25, 7, 6, 40, 8, 11, 1 << 32, 26, mostNumber, mostNumber - 1, mostNumber - 2} {
		if number <= want.floor {
			checkKeep(t, tb, 1, number, marked(number), api.ErrOld)
		} else {
			checkKeep(t, tb, 1, number, marked(number), api.OK)
			want = want.with(number, marked(number))
		}
		checkSame(t, tb, state{1: want})
	}
	checkFloor(t, tb, 1, 40)
	checkKnown(t, tb, 1, 1<<32, mostNumber-2, mostNumber-1, mostNumber)
}

// The new one itself is the least: it goes at once, and is too old.
func TestTheLeastMayBeTheNewOne(t *testing.T) {
	tb := table(t, state{1: {0, answersTo(0, 10, 11, 12, 13)}})
	checkKeep(t, tb, 1, 5, marked(5), api.OK)
	checkSame(t, tb, state{1: {5, answersTo(0, 10, 11, 12, 13)}})
	checkKeep(t, tb, 1, 5, marked(5), api.ErrOld)
	checkKeep(t, tb, 1, 6, marked(6), api.OK)
	checkSame(t, tb, state{1: {6, answersTo(0, 10, 11, 12, 13)}})
}

// All orders in which some requests can come.
func TestAllSmallTables(t *testing.T) {
	for _, l := range sample.Lists(6, 1, 2, 3, 5, 6, 7) {
		tb, want := once.New(), memory{}
		for i, number := range l {
			_, there := want.find(number)
			switch {
			case number <= want.floor:
				checkKeep(t, tb, 2, number, marked(i), api.ErrOld)
			case there:
				checkKeep(t, tb, 2, number, marked(i), api.ErrThere)
			default:
				checkKeep(t, tb, 2, number, marked(i), api.OK)
				want = want.with(number, marked(i))
			}
		}
		checkClient(t, tb, 2, want)
		if t.Failed() {
			t.Fatalf("requests %d", l)
		}
	}
}

func TestManyRequests(t *testing.T) {
	tb := once.New()
	for number := 1; number <= 20000; number++ {
		checkKeep(t, tb, 0, number, marked(number), api.OK)
		checkFloor(t, tb, 0, max(number-window, 0))
	}
	var want []answer
	for number := 19997; number <= 20000; number++ {
		want = append(want, answer{number, marked(number)})
	}
	checkSame(t, tb, state{0: {19996, want}})
}

// P17.3: Floor and Known

func TestClientsAreApart(t *testing.T) {
	tb, want := once.New(), state{}
	for i, number := range []int{9, 3, 5, 300, 4, mostNumber} {
		for _, client := range clients() {
			m := want[client]
			// Of each client another request is passed over.
			if i == client%5 {
				continue
			}
			if number > m.floor {
				checkKeep(t, tb, client, number, marked(number%100+client%1000), api.OK)
				want[client] = m.with(number, marked(number%100+client%1000))
			}
		}
		checkSame(t, tb, want)
	}
}

func TestTablesAreApart(t *testing.T) {
	one, two := once.New(), once.New()
	checkKeep(t, one, 1, 5, marked(1), api.OK)
	checkSame(t, two, nil)
	checkKeep(t, two, 1, 5, marked(2), api.OK)
	checkKeep(t, two, 1, 6, marked(3), api.OK)
	checkSame(t, one, state{1: {0, []answer{{5, marked(1)}}}})
	checkSame(t, two, state{1: {0, []answer{{5, marked(2)}, {6, marked(3)}}}})
}

func TestManyClients(t *testing.T) {
	tb, want := once.New(), state{}
	for i := range 2000 {
		client := i * 7919 % mostNumber
		checkKeep(t, tb, client, i+1, marked(i), api.OK)
		want[client] = memory{0, []answer{{i + 1, marked(i)}}}
	}
	checkSame(t, tb, want)
}

// Looking changes nothing, nor does what is asked of clients that are not there.
func TestAskingChangesNothing(t *testing.T) {
	tb := table(t, few())
	saved := tb.Save()
	for _, client := range append(badClients(), clients()...) {
		tb.Floor(client)
		tb.Known(client)
		for _, number := range append(badNumbers(), numbers()...) {
			tb.Look(client, number)
		}
	}
	if got := tb.Save(); got != saved {
		t.Errorf("Save became %x", got)
	}
	checkSame(t, tb, few())
}

func TestExample(t *testing.T) {
	tb, x := once.New(), marked(1)
	checkKeep(t, tb, 1, 5, x, api.OK)
	checkLook(t, tb, 1, 5, x, api.OK)
	checkLook(t, tb, 1, 4, api.Reply{}, api.ErrNone)
	for number := 6; number <= 9; number++ {
		checkKeep(t, tb, 1, number, x, api.OK)
	}
	checkLook(t, tb, 1, 5, api.Reply{}, api.ErrOld)
	checkLook(t, tb, 1, 4, api.Reply{}, api.ErrOld)
	if got := tb.Floor(1); got != 5 {
		t.Errorf("Floor(1) = %d", got)
	}
	if got := tb.Known(1); !slices.Equal(got, []int{6, 7, 8, 9}) {
		t.Errorf("Known(1) = %d", got)
	}
	checkLook(t, tb, 2, 5, api.Reply{}, api.ErrNone)
}
