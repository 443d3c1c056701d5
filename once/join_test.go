package once_test

import (
	"maps"
	"math/bits"
	"testing"

	"shelfmark/api"
	"shelfmark/once"
	"shelfmark/sample"
)

// chosen are the numbers, from 1 on, whose bits are set.
func chosen(set uint) []int {
	var l []int
	for n := range bits.Len(set) {
		if set>>n&1 == 1 {
			l = append(l, n+1)
		}
	}
	return l
}

// memories are all that a table can remember of a client of the requests 1 to most: nothing, too. The replies tell whose they are.
func memories(whose, most int) []memory {
	var l []memory
	for set := range uint(1) << most {
		numbers := chosen(set)
		if len(numbers) > window {
			continue
		}
		l = append(l, memory{0, answersTo(whose, numbers...)})
		if len(numbers) < window {
			continue
		}
		for floor := 1; floor < numbers[0]; floor++ {
			l = append(l, memory{floor, answersTo(whose, numbers...)})
		}
	}
	return l
}

// of is what a table has to remember of one client: if that is nothing, the client isn't there.
func of(client int, m memory) state {
	if len(m.answers) == 0 {
		return nil
	}
	return state{client: m}
}

// states are such as tables may be in.
func states() []state {
	var all []answer
	for i, reply := range replies() {
		all = append(all, answer{3*i + 1, reply})
	}
	l := []state{nil, few()}
	for from := 0; from+window <= len(all); from += window {
		l = append(l, state{7: {from, all[from : from+window]}, 300: {0, all[from : from+from%window]}, mostNumber: {0, all[from : from+1]}})
	}
	for _, s := range l {
		maps.DeleteFunc(s, func(_ int, m memory) bool { return len(m.answers) == 0 })
	}
	high := answersTo(0, mostNumber-3, mostNumber-2, mostNumber-1, mostNumber)
	return append(l, state{0: {mostNumber - 4, high}}, state{0: {1, high}, mostNumber: {mostNumber - 5, high}}, state{mostNumber: {0, high}}, state{1: {0, high[2:]}, 2: {0, high[3:]}})
}

// P17.3: Copy

func TestCopyIsTheSame(t *testing.T) {
	for _, s := range states() {
		tb := table(t, s)
		checkSame(t, tb.Copy(), s)
		checkSame(t, tb.Copy().Copy(), s)
		checkSame(t, tb, s)
	}
	for _, m := range memories(0, 7) {
		checkSame(t, table(t, of(2, m)).Copy(), of(2, m))
	}
}

func TestACopyGoesOnByItself(t *testing.T) {
	tb := table(t, few())
	c := tb.Copy()
	checkKeep(t, tb, 1, 12, marked(1), api.OK)
	checkKeep(t, tb, 3, 5, marked(2), api.OK)
	checkKeep(t, tb, 4, 1, marked(3), api.OK)
	checkSame(t, c, few())
	checkKeep(t, c, 1, 10, marked(4), api.OK)
	checkKeep(t, c, 0, 1, marked(5), api.OK)
	want := few()
	want[1], want[0] = want[1].with(10, marked(4)), want[0].with(1, marked(5))
	checkSame(t, c, want)
	want = few()
	want[1], want[3], want[4] = want[1].with(12, marked(1)), want[3].with(5, marked(2)), memory{0, []answer{{1, marked(3)}}}
	checkSame(t, tb, want)
}

// P17.3: Join

// checkJoin asks for a table of what two remember, and that these stay as they are.
func checkJoin(t *testing.T, a, b state) {
	t.Helper()
	one, two := table(t, a), table(t, b)
	checkSame(t, once.Join(one, two), joinedStates(a, b))
	checkSame(t, one, a)
	checkSame(t, two, b)
}

func TestJoinOfAllSmallTables(t *testing.T) {
	for _, a := range memories(100, 7) {
		one := table(t, of(2, a))
		for _, b := range memories(200, 7) {
			two := table(t, of(2, b))
			checkClient(t, once.Join(one, two), 2, joined(a, b))
			if t.Failed() {
				t.Fatalf("%s and %s", name(a), name(b))
			}
		}
		checkClient(t, one, 2, a)
	}
}

func TestJoinOfSeveralClients(t *testing.T) {
	for _, a := range states() {
		for _, b := range []state{nil, few(), states()[5], {7: {8, answersTo(100, 9, 10, 13, 300)}, 1: {0, answersTo(100, 3, 5, 6, 300)}}} {
			checkJoin(t, a, b)
			checkJoin(t, b, a)
		}
	}
}

func TestJoinOfSomeTables(t *testing.T) {
	mem := func(floor int, whose int, numbers ...int) memory { return memory{floor, answersTo(whose, numbers...)} }
	for i, c := range []struct{ a, b, want memory }{
		// Of the same number a's.
		{mem(0, 100, 5), mem(0, 200, 5), mem(0, 100, 5)},
		{mem(0, 100, 5, 7), mem(0, 200, 5, 7), mem(0, 100, 5, 7)},
		// No more than four: no floor comes of it.
		{mem(0, 100, 5, 6), mem(0, 100, 7, 8), mem(0, 100, 5, 6, 7, 8)},
		{mem(0, 100, 5, 6, 7), mem(0, 100, 6, 7, 8), mem(0, 100, 5, 6, 7, 8)},
		{mem(0, 100, 5, 6, 7, 8), mem(0, 200, 5, 6, 7, 8), mem(0, 100, 5, 6, 7, 8)},
		// More: the greatest one of the others is the floor.
		{mem(0, 100, 5, 6), mem(0, 100, 7, 8, 9), mem(5, 100, 6, 7, 8, 9)},
		{mem(0, 100, 1, 3, 5, 7), mem(0, 100, 2, 4, 6, 8), mem(4, 100, 5, 6, 7, 8)},
		{mem(0, 100, 1, 2, 3, 4), mem(0, 100, 20, 21, 22, 23), mem(4, 100, 20, 21, 22, 23)},
		{mem(2, 100, 3, 9, 10, 11), mem(0, 100, 30), mem(3, 100, 9, 10, 11, 30)},
		// What one forgot is too old, though the other one remembers it.
		{mem(5, 100, 6, 7, 8, 9), mem(0, 200, 4), mem(5, 100, 6, 7, 8, 9)},
		{mem(5, 100, 6, 7, 8, 9), mem(0, 200, 5), mem(5, 100, 6, 7, 8, 9)},
		{mem(5, 100, 6, 7, 8, 9), mem(1, 200, 2, 3, 4, 5), mem(5, 100, 6, 7, 8, 9)},
		{mem(8, 100, 9, 10, 11, 12), mem(5, 200, 6, 7, 8, 9), mem(8, 100, 9, 10, 11, 12)},
		// Both at once.
		{mem(5, 100, 6, 7, 8, 9), mem(2, 100, 3, 5, 10, 11), mem(7, 100, 8, 9, 10, 11)},
	} {
		tb := once.Join(table(t, of(1, c.a)), table(t, of(1, c.b)))
		checkSame(t, tb, of(1, c.want))
		// Turned about, all but whose replies they are is the same.
		tb = once.Join(table(t, of(1, c.b)), table(t, of(1, c.a)))
		checkFloor(t, tb, 1, c.want.floor)
		checkKnown(t, tb, 1, c.want.known()...)
		if t.Failed() {
			t.Fatalf("case %d", i)
		}
	}
}

func TestJoinWithOneself(t *testing.T) {
	for _, s := range states() {
		tb := table(t, s)
		checkSame(t, once.Join(tb, tb), s)
		checkSame(t, once.Join(tb, once.New()), s)
		checkSame(t, once.Join(once.New(), tb), s)
		checkSame(t, tb, s)
	}
}

func TestWhatIsJoinedGoesOnByItself(t *testing.T) {
	a, b := state{1: {0, answersTo(100, 5, 6)}, 2: {0, answersTo(100, 1)}}, state{1: {0, answersTo(200, 6, 7)}, 3: {0, answersTo(200, 1)}}
	one, two := table(t, a), table(t, b)
	tb := once.Join(one, two)
	for client := 1; client <= 4; client++ {
		checkKeep(t, one, client, 20, marked(1), api.OK)
		checkKeep(t, two, client, 21, marked(2), api.OK)
	}
	checkSame(t, tb, joinedStates(a, b))
	for client := 1; client <= 4; client++ {
		for number := 30; number < 40; number++ {
			checkKeep(t, tb, client, number, marked(3), api.OK)
		}
		checkKnown(t, tb, client, 36, 37, 38, 39)
	}
	for client := 1; client <= 4; client++ {
		a[client] = a[client].with(20, marked(1))
		b[client] = b[client].with(21, marked(2))
	}
	checkSame(t, one, a)
	checkSame(t, two, b)
}

// Tables that are joined one behind the other come to what they come to at once, whichever two are joined first.
func TestJoinsOfThree(t *testing.T) {
	d := sample.Dice(173)
	a, b, c := memories(100, 8), memories(100, 8), memories(100, 8)
	for range 3000 {
		x, y, z := of(1, sample.Pick(&d, a)), of(1, sample.Pick(&d, b)), of(1, sample.Pick(&d, c))
		tx, ty, tz := table(t, x), table(t, y), table(t, z)
		want := joinedStates(joinedStates(x, y), z)
		checkSame(t, once.Join(once.Join(tx, ty), tz), want)
		checkSame(t, once.Join(tx, once.Join(ty, tz)), want)
	}
}
