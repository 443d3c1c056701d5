package letter_test

import (
	"fmt"
	"math"
	"reflect"
	"slices"
	"strings"
	"testing"

	"shelfmark/api"
	"shelfmark/letter"
	"shelfmark/pack"
	"shelfmark/sample"
)

// The limits, as the chapter tells them.
const (
	mostKind   = 255
	mostNumber = 1 << 40
	mostItems  = 256
	mostBytes  = 65536
)

var intent = sample.Intent

// The numbers of a letter, by their places in its bytes.
const (
	places    = 8
	kindPlace = 0
)

func pair(key, val string) api.Pair {
	return api.Pair{Key: key, Val: val}
}

// long is a text of n bytes.
func long(n int) string {
	return strings.Repeat("k", n)
}

// numbersOf are a letter's own numbers, by their places in its bytes.
func numbersOf(l api.Letter) []int {
	return []int{l.Kind, l.From, l.To, l.A, l.B, l.C, l.D, int(l.Code)}
}

// withNumber is a letter whose number at a place is n.
func withNumber(l api.Letter, place, n int) api.Letter {
	all := numbersOf(l)
	all[place] = n
	l.Kind, l.From, l.To, l.A, l.B, l.C, l.D, l.Code = all[0], all[1], all[2], all[3], all[4], all[5], all[6], api.Errno(all[7])
	return l
}

// withVersion is a letter without other intents, whose intent at a place out of count has this version.
func withVersion(l api.Letter, count, place, version int) api.Letter {
	l.Intents = slices.Repeat([]api.Intent{intent("e", 1, true)}, count)
	l.Intents[place].Version = version
	return l
}

// mostOf is the greatest number that a right letter has at a place.
func mostOf(place int) int {
	if place == kindPlace {
		return mostKind
	}
	return mostNumber
}

// withText are letters that have a text at one place each.
func withText(s string) []api.Letter {
	return []api.Letter{
		{S: s}, {T: s}, {Body: s},
		{Pairs: []api.Pair{pair(s, "")}}, {Pairs: []api.Pair{pair("", s)}}, {Pairs: []api.Pair{pair("a", "b"), pair(s, s)}},
		{Intents: []api.Intent{intent(s, 1, false)}}, {Intents: []api.Intent{intent("a", 2, false), intent(s, 1, true)}},
	}
}

// items are so many pairs, and so many intents.
func items(pairs, intents int) api.Letter {
	var l api.Letter
	for i := range pairs {
		l.Pairs = append(l.Pairs, pair(fmt.Sprint(i), long(i%7)))
	}
	for i := range intents {
		l.Intents = append(l.Intents, intent(fmt.Sprint(i), i*i, i%3 == 0))
	}
	return l
}

// filled is a letter of which the text that at tells grows till its bytes are n.
func filled(l api.Letter, n int, at func(l *api.Letter) *string) api.Letter {
	*at(&l) = ""
	rest := n - len(formOf(l))
	*at(&l) = long(rest - len(sample.NumForm(rest)) + 1)
	if len(formOf(l)) != n {
		panic("such a letter can't be made")
	}
	return l
}

// sized are letters of all kinds whose bytes are n, which has to be beyond what the greatest of them has without the text that grows.
func sized(n int) []api.Letter {
	body := func(l *api.Letter) *string { return &l.Body }
	return []api.Letter{
		filled(api.Letter{}, n, body),
		filled(sample.Letter(), n, body),
		filled(items(mostItems, mostItems), n, body),
		filled(withVersion(api.Letter{}, mostItems, 7, mostNumber), n, body),
		filled(api.Letter{}, n, func(l *api.Letter) *string { return &l.S }),
		filled(sample.Letter(), n, func(l *api.Letter) *string { return &l.T }),
		filled(sample.Letter(), n, func(l *api.Letter) *string { return &l.Pairs[1].Key }),
		filled(sample.Letter(), n, func(l *api.Letter) *string { return &l.Pairs[0].Val }),
		filled(sample.Letter(), n, func(l *api.Letter) *string { return &l.Intents[2].Entry }),
	}
}

// smallLetters are right letters of all kinds, none of them like another, and none of them of many bytes.
func smallLetters() []api.Letter {
	l := []api.Letter{{}, {Yes: true}, sample.Letter(), {Kind: 1, To: 2, S: "a", Yes: true}}
	for place := range places {
		for _, n := range []int{20, 127, 128, 254, mostOf(place) - 2, mostOf(place)} {
			l = append(l, withNumber(api.Letter{}, place, n), withNumber(sample.Letter(), place, n))
		}
	}
	for _, s := range []string{"\x00", "\x00\x00", "\x80", "\xff", "ä", "a\x00b", long(127), long(128)} {
		l = append(l, withText(s)...)
	}
	for _, n := range []int{0, 1, 128, mostNumber - 1, mostNumber} {
		l = append(l, withVersion(api.Letter{}, 1, 0, n), withVersion(api.Letter{}, 3, 2, n))
	}
	return append(l,
		api.Letter{Pairs: []api.Pair{{}}}, api.Letter{Pairs: []api.Pair{{}, {}}}, api.Letter{Intents: []api.Intent{{}}}, api.Letter{Intents: []api.Intent{{}, {}}},
		api.Letter{Pairs: []api.Pair{pair("a", "b"), pair("a", "b")}}, api.Letter{Pairs: []api.Pair{pair("b", "a"), pair("a", "b")}},
		api.Letter{Intents: []api.Intent{intent("e", 1, true), intent("e", 1, false)}}, api.Letter{Intents: []api.Intent{intent("e", 1, false), intent("e", 1, true)}},
	)
}

// rightLetters are letters that are right, of all kinds.
func rightLetters() []api.Letter {
	l := append(smallLetters(), items(mostItems, 0), items(0, mostItems), items(mostItems, mostItems), items(127, 128), items(128, 127))
	for _, s := range []string{long(16383), long(16384), string(sample.Bytes(30000))} {
		l = append(l, withText(s)...)
	}
	return slices.Concat(l, sized(mostBytes-1), sized(mostBytes))
}

// fault is a letter that isn't right, and what is wrong with it.
type fault struct {
	l api.Letter
	e api.Errno
}

// badNumbers are numbers that no right letter has at a place.
func badNumbers(place int) []int {
	most := mostOf(place)
	return []int{-1, -2, -mostNumber, math.MinInt, math.MinInt + 1, most + 1, most + 2, 1<<40 + 1, 1 << 41, 1<<40 + 1<<32, 1<<62 + 1, math.MaxInt - 1, math.MaxInt}
}

// largeLetters are such that have too many bytes, or too many pairs or intents, but no number that is outside.
func largeLetters() []api.Letter {
	l := append(sized(mostBytes+1), sized(mostBytes+2)...)
	l = append(l, items(mostItems+1, 0), items(0, mostItems+1), items(mostItems+1, mostItems+1), items(mostItems, mostItems+1), items(mostItems+1, mostItems))
	l = append(l, items(1000, 0), items(0, 1000), api.Letter{Pairs: make([]api.Pair, mostItems+1)}, api.Letter{Intents: make([]api.Intent, mostItems+1)})
	return append(l, withText(long(100000))...)
}

// wrongLetters are letters that aren't right, of all kinds.
func wrongLetters() []fault {
	var l []fault
	for _, x := range largeLetters() {
		l = append(l, fault{x, api.ErrLarge})
	}
	for place := range places {
		for _, n := range badNumbers(place) {
			l = append(l, fault{withNumber(api.Letter{}, place, n), api.ErrArg}, fault{withNumber(sample.Letter(), place, n), api.ErrArg})
		}
	}
	for _, n := range badNumbers(1) {
		l = append(l, fault{withVersion(api.Letter{}, 1, 0, n), api.ErrArg}, fault{withVersion(sample.Letter(), mostItems, mostItems-1, n), api.ErrArg})
	}
	return l
}

func flag(yes bool) string {
	return map[bool]string{false: "\x00", true: "\x01"}[yes]
}

// formOf is a letter as bytes, whether it is right or not; numbers below 0 have no form.
func formOf(l api.Letter) string {
	var s strings.Builder
	for _, n := range numbersOf(l) {
		s.WriteString(sample.NumForm(n))
	}
	s.WriteString(flag(l.Yes) + sample.TextForm(l.S) + sample.TextForm(l.T) + sample.TextForm(l.Body) + sample.NumForm(len(l.Pairs)))
	for _, p := range l.Pairs {
		s.WriteString(sample.TextForm(p.Key) + sample.TextForm(p.Val))
	}
	s.WriteString(sample.NumForm(len(l.Intents)))
	for _, i := range l.Intents {
		s.WriteString(sample.TextForm(i.Entry) + sample.NumForm(i.Version) + flag(i.Gone))
	}
	return s.String()
}

// wrongWith is what Check has to answer, told one limit behind the other.
func wrongWith(l api.Letter) api.Errno {
	for place, n := range numbersOf(l) {
		if n < 0 || n > mostOf(place) {
			return api.ErrArg
		}
	}
	for _, i := range l.Intents {
		if i.Version < 0 || i.Version > mostNumber {
			return api.ErrArg
		}
	}
	if len(l.Pairs) > mostItems || len(l.Intents) > mostItems || len(formOf(l)) > mostBytes {
		return api.ErrLarge
	}
	return api.OK
}

// unpackError is what Unpack has to find wrong with bytes. What is still to be read stands as a text: a Kind (k), other numbers (n), such as say yes or no (y), texts (t), pairs (p) and intents (i).
func unpackError(s string) api.Errno {
	if len(s) > mostBytes {
		return api.ErrLarge
	}
	b, at := []byte(s), 0
	most := map[byte]int{'k': mostKind, 'n': mostNumber, 'y': 1, 'p': mostNumber, 'i': mostNumber}
	things := map[byte]string{'p': "tt", 'i': "tny"}
	for todo := "knnnnnnnytttpi"; todo != ""; {
		kind := todo[0]
		todo = todo[1:]
		n, next, e := 0, 0, api.OK
		if kind == 't' {
			_, next, e = pack.GetText(b, at, math.MaxInt)
		} else {
			n, next, e = pack.GetNum(b, at)
		}
		if e != api.OK {
			return e
		}
		if n > most[kind] {
			return api.ErrForm
		}
		if things[kind] != "" && n > mostItems {
			return api.ErrLarge
		}
		at, todo = next, strings.Repeat(things[kind], n)+todo
	}
	if at < len(b) {
		return api.ErrForm
	}
	return api.OK
}

// tidy is a letter whose lists are nil, where they have no elements.
func tidy(l api.Letter) api.Letter {
	if len(l.Pairs) == 0 {
		l.Pairs = nil
	}
	if len(l.Intents) == 0 {
		l.Intents = nil
	}
	return l
}

// alike tells whether two letters are the same, by the library.
func alike(a, b api.Letter) bool {
	return reflect.DeepEqual(tidy(a), tidy(b))
}

// apart is a letter that is the same, with lists of its own.
func apart(l api.Letter) api.Letter {
	l.Pairs, l.Intents = slices.Clone(l.Pairs), slices.Clone(l.Intents)
	return l
}

// thrown is a letter that dice throw: it is right more often than not.
func thrown(d *sample.Dice) api.Letter {
	var l api.Letter
	for place := range places {
		n := sample.Pick(d, []int{0, 1, 7, 127, 128, 255, 256, 1 << 20, mostNumber})
		l = withNumber(l, place, min(n, mostOf(place)))
	}
	if d.Below(8) == 0 {
		place := d.Below(places)
		l = withNumber(l, place, sample.Pick(d, badNumbers(place)))
	}
	l.Yes = d.Below(2) == 0
	l.S, l.T, l.Body = thrownText(d), thrownText(d), thrownText(d)
	for range d.Below(4) {
		l.Pairs = append(l.Pairs, pair(thrownText(d), thrownText(d)))
	}
	for range d.Below(4) {
		l.Intents = append(l.Intents, intent(thrownText(d), sample.Pick(d, []int{0, 1, 128, mostNumber}), d.Below(2) == 0))
	}
	if d.Below(16) == 0 {
		l.Intents = append(l.Intents, intent("e", sample.Pick(d, badNumbers(1)), false))
	}
	return l
}

func thrownText(d *sample.Dice) string {
	return sample.Pick(d, append([]string{"", "", "a", long(127), long(128)}, sample.Edges()...))
}

// checkLetter asks a call for this letter and this error.
func checkLetter(t *testing.T, call string, got api.Letter, gotErr api.Errno, want api.Letter, e api.Errno) {
	t.Helper()
	if !alike(got, want) || gotErr != e {
		t.Errorf("%s = %s, %d, not %s, %d", call, name(got), gotErr, name(want), e)
	}
}

func checkErr(t *testing.T, l api.Letter, want api.Errno) {
	t.Helper()
	if got := letter.Check(l); got != want {
		t.Errorf("Check of %s = %d, not %d", name(l), got, want)
	}
}

func checkPack(t *testing.T, l api.Letter, want string, e api.Errno) {
	t.Helper()
	if got, gotErr := letter.Pack(l); got != want || gotErr != e {
		t.Errorf("Pack of %s = %.60x, %d, not %.60x, %d", name(l), got, gotErr, want, e)
	}
}

func checkUnpack(t *testing.T, s string, want api.Letter, e api.Errno) {
	t.Helper()
	got, gotErr := letter.Unpack(s)
	if !alike(got, want) || gotErr != e {
		t.Errorf("Unpack of %d bytes %.60x = %s, %d, not %s, %d", len(s), s, name(got), gotErr, name(want), e)
	}
}

// name is how a letter is told in a fault's text: shortened, where its texts or its lists are long.
func name(l api.Letter) string {
	short := func(s string) string { return fmt.Sprintf("%d:%.12q", len(s), s) }
	s := fmt.Sprintf("{%d %t %s %s %s, %d pairs:", numbersOf(l), l.Yes, short(l.S), short(l.T), short(l.Body), len(l.Pairs))
	for _, p := range l.Pairs[:min(len(l.Pairs), 4)] {
		s += " " + short(p.Key) + "=" + short(p.Val)
	}
	s += fmt.Sprintf(", %d intents:", len(l.Intents))
	for _, i := range l.Intents[:min(len(l.Intents), 4)] {
		s += fmt.Sprintf(" %s %d %t", short(i.Entry), i.Version, i.Gone)
	}
	return s + "}"
}
