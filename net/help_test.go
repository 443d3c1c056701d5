package net_test

import (
	"fmt"
	"math"
	"slices"
	"strings"
	"testing"

	"shelfmark/api"
	"shelfmark/letter"
	"shelfmark/net"
	"shelfmark/sample"
)

// The limits, as the chapters tell them.
const (
	mostUnder  = 4096
	mostNumber = 1 << 40
	mostItems  = 256
	mostBody   = 65520 // bytes of a letter's Body, if nothing else makes it longer
)

// numbered is a letter that is unlike those of other numbers.
func numbered(n int) api.Letter {
	l := sample.Letter()
	l.D = n
	return l
}

// letters are right letters of all kinds, none of them like another.
func letters() []api.Letter {
	return []api.Letter{
		{}, sample.Letter(), sample.LetterOf("one line of one text."), numbered(300), {Yes: true}, {Kind: 1}, {Kind: 255}, {Kind: 5, From: 1, To: 2, Code: api.ErrBusy},
		{From: mostNumber, To: mostNumber, A: mostNumber, B: mostNumber, C: mostNumber, D: mostNumber, Code: mostNumber},
		{S: "a"}, {T: "a"}, {Body: "a"}, {S: "\x00", T: "ä", Body: "\xff\xfe"}, {Body: strings.Repeat("b", mostBody)},
		{Pairs: make([]api.Pair, 1)}, {Pairs: make([]api.Pair, mostItems)}, {Pairs: []api.Pair{{Key: "k", Val: "v"}, {Key: "k", Val: "v"}}},
		{Intents: make([]api.Intent, 1)}, {Intents: make([]api.Intent, mostItems)}, {Intents: []api.Intent{{Entry: "e", Version: mostNumber, Gone: true}}},
	}
}

// fault is a letter that isn't right, and what is wrong with it.
type fault struct {
	l api.Letter
	e api.Errno
}

// badLetters are letters that aren't right.
func badLetters() []fault {
	l := []fault{
		{api.Letter{Kind: 256}, api.ErrArg},
		{api.Letter{Intents: []api.Intent{{Version: -1}}}, api.ErrArg},
		{api.Letter{Intents: []api.Intent{{}, {Version: mostNumber + 1}}}, api.ErrArg},
		{api.Letter{Body: strings.Repeat("b", mostBody+1)}, api.ErrLarge},
		{api.Letter{S: "a", Body: strings.Repeat("b", mostBody)}, api.ErrLarge},
		{api.Letter{S: strings.Repeat("s", 1<<20)}, api.ErrLarge},
		{api.Letter{Pairs: make([]api.Pair, mostItems+1)}, api.ErrLarge},
		{api.Letter{Intents: make([]api.Intent, mostItems+1)}, api.ErrLarge},
		{api.Letter{Pairs: make([]api.Pair, mostItems+1), A: -1}, api.ErrArg},
		{api.Letter{Pairs: make([]api.Pair, 1<<16)}, api.ErrLarge},
	}
	for _, n := range []int{-1, mostNumber + 1, math.MinInt, math.MaxInt} {
		for _, x := range []api.Letter{{Kind: n}, {From: n}, {To: n}, {A: n}, {B: n}, {C: n}, {D: n}, {Code: api.Errno(n)}} {
			l = append(l, fault{x, api.ErrArg})
		}
	}
	return l
}

// farNumbers are numbers under which no letter ever is.
func farNumbers() []int {
	return []int{0, -1, -2, math.MinInt, math.MinInt + 1, math.MaxInt, 1 << 32, 1<<32 + 1, mostNumber}
}

// sent is a letter, and the number under which it is under way.
type sent struct {
	number int
	l      api.Letter
}

// sendAll sends letters in a new net: under the numbers from 1 on.
func sendAll(t *testing.T, letters ...api.Letter) (*net.Net, []sent) {
	t.Helper()
	n := net.New()
	var l []sent
	for i, x := range letters {
		checkSend(t, n, x, i+1, api.OK)
		l = append(l, sent{i + 1, x})
	}
	return n, l
}

// full is a net with as many letters under way as may be, and what they are.
func full(t *testing.T) (*net.Net, []sent) {
	t.Helper()
	var l []api.Letter
	for i := range mostUnder {
		l = append(l, numbered(i+1))
	}
	return sendAll(t, l...)
}

// without are the letters without that of a number.
func without(l []sent, number int) []sent {
	return slices.DeleteFunc(slices.Clone(l), func(s sent) bool { return s.number == number })
}

// name is how a letter is told in a fault's text.
func name(l api.Letter) string {
	return fmt.Sprintf("%.200q", fmt.Sprintf("%+v", l))
}

func checkSend(t *testing.T, n *net.Net, l api.Letter, want int, e api.Errno) {
	t.Helper()
	if got, gotErr := n.Send(l); got != want || gotErr != e {
		t.Fatalf("Send = %d, %d, not %d, %d", got, gotErr, want, e)
	}
}

func checkDeliver(t *testing.T, n *net.Net, number int, want api.Letter, e api.Errno) {
	t.Helper()
	if got, gotErr := n.Deliver(number); !letter.Same(got, want) || gotErr != e {
		t.Fatalf("Deliver(%d) = %s, %d, not %s, %d", number, name(got), gotErr, name(want), e)
	}
}

func checkDrop(t *testing.T, n *net.Net, number int, e api.Errno) {
	t.Helper()
	if got := n.Drop(number); got != e {
		t.Fatalf("Drop(%d) = %d, not %d", number, got, e)
	}
}

func checkTwice(t *testing.T, n *net.Net, number, want int, e api.Errno) {
	t.Helper()
	if got, gotErr := n.Twice(number); got != want || gotErr != e {
		t.Fatalf("Twice(%d) = %d, %d, not %d, %d", number, got, gotErr, want, e)
	}
}

// checkNone asks that no letter can be taken out or doubled under a number.
func checkNone(t *testing.T, n *net.Net, number int) {
	t.Helper()
	checkDeliver(t, n, number, api.Letter{}, api.ErrNone)
	checkDrop(t, n, number, api.ErrNone)
	checkTwice(t, n, number, 0, api.ErrNone)
}

func checkLook(t *testing.T, n *net.Net, number int, want api.Letter, there bool) {
	t.Helper()
	if got, ok := n.Look(number); !letter.Same(got, want) || ok != there {
		t.Fatalf("Look(%d) = %s, %t, not %s, %t", number, name(got), ok, name(want), there)
	}
}

// checkUnder asks that just these letters are under way, given by rising numbers.
func checkUnder(t *testing.T, n *net.Net, want ...sent) {
	t.Helper()
	var numbers []int
	last := 0
	for _, s := range want {
		for number := last + 1; number < s.number; number++ {
			checkLook(t, n, number, api.Letter{}, false)
		}
		last = s.number
		checkLook(t, n, s.number, s.l, true)
		numbers = append(numbers, s.number)
	}
	for _, number := range append(farNumbers(), last+1, last+2) {
		checkLook(t, n, number, api.Letter{}, false)
	}
	if got := n.Under(); !slices.Equal(got, numbers) {
		t.Fatalf("Under = %d, not %d", got, numbers)
	}
	if got := n.Len(); got != len(want) {
		t.Fatalf("Len = %d, not %d", got, len(want))
	}
}
