package letter_test

import (
	"fmt"
	"math"
	"slices"
	"testing"
	"unsafe"

	"shelfmark/api"
	"shelfmark/letter"
	"shelfmark/sample"
)

// askAll calls all that takes a letter, and tells the answers.
func askAll(l api.Letter) string {
	packed, e := letter.Pack(l)
	return fmt.Sprintf("%d %q %d %t %t %s", letter.Check(l), packed, e, letter.Same(l, sample.Letter()), letter.Same(sample.Letter(), l), name(letter.Copy(l)))
}

// handedIn are letters of all kinds, right or not.
func handedIn() []api.Letter {
	l := append(smallLetters(), items(mostItems, mostItems))
	for _, f := range wrongLetters() {
		l = append(l, f.l)
	}
	return l
}

// P13.4, R4

func TestWhatIsHandedInStays(t *testing.T) {
	for _, inside := range handedIn() {
		l, check := sample.LetterInRoom(t, inside)
		askAll(l)
		letter.Same(l, apart(inside))
		letter.Same(apart(inside), l)
		check()
	}
}

func TestWhatLiesBehindTheLengthIsNotRead(t *testing.T) {
	for _, inside := range handedIn() {
		l, _ := sample.LetterInRoom(t, inside)
		if got, want := askAll(l), askAll(apart(inside)); got != want {
			t.Errorf("%s reads on: %.300s, not %.300s", name(inside), got, want)
		}
		if other, _ := sample.LetterInRoom(t, inside); !letter.Same(l, other) || !letter.Same(l, apart(inside)) || !letter.Same(apart(inside), l) {
			t.Errorf("Same of %s reads on", name(inside))
		}
		checkCopy(t, l)
	}
}

func TestCopiesAreNew(t *testing.T) {
	for _, inside := range handedIn() {
		l := apart(inside)
		one, two := letter.Copy(l), letter.Copy(l)
		sample.SpoilLetter(one)
		checkLetter(t, "what was handed in", l, api.OK, inside, api.OK)
		checkLetter(t, "another copy", two, api.OK, inside, api.OK)
		// What was handed in may be written over then.
		sample.SpoilLetter(l)
		checkLetter(t, "another copy", two, api.OK, inside, api.OK)
	}
}

func TestUnpackedLettersAreNew(t *testing.T) {
	for _, want := range smallLetters() {
		s := formOf(want)
		one, _ := letter.Unpack(s)
		two, _ := letter.Unpack(s)
		sample.SpoilLetter(one)
		checkLetter(t, "another answer", two, api.OK, want, api.OK)
		checkUnpack(t, s, want, api.OK)
	}
}

// Where a list has no elements, no memory behind it comes along.
func TestCopiesOfEmptyListsMayBeGrown(t *testing.T) {
	l, check := sample.LetterInRoom(t, api.Letter{Kind: 1})
	got := letter.Copy(l)
	got.Pairs = append(got.Pairs, pair("x", "y"))
	got.Intents = append(got.Intents, intent("x", 1, true))
	check()
	if other := letter.Copy(l); len(other.Pairs) != 0 || len(other.Intents) != 0 {
		t.Errorf("another copy became %s", name(other))
	}
}

func TestAnswersMayBeGrown(t *testing.T) {
	one, two := letter.Copy(sample.Letter()), letter.Copy(sample.Letter())
	one.Pairs = append(one.Pairs, pair("x", "y"))
	one.Intents = append(one.Intents[:1], intent("x", 1, true))
	checkLetter(t, "another copy", two, api.OK, sample.Letter(), api.OK)
	one, _ = letter.Unpack(formOf(sample.Letter()))
	one.Pairs = append(one.Pairs, pair("x", "y"))
	one.Intents = append(one.Intents, intent("x", 1, true))
	want := sample.Letter()
	checkLetter(t, "a grown letter", one, api.OK, api.Letter{
		Kind: 1, From: 2, To: 3, A: 4, B: 5, C: 6, D: 7, Code: 8, Yes: true, S: "s", T: "tt", Body: "body",
		Pairs: append(want.Pairs, pair("x", "y")), Intents: append(want.Intents, intent("x", 1, true)),
	}, api.OK)
}

func TestTextsOfAnswersAreNew(t *testing.T) {
	b := []byte("one line of one text.")
	want := sample.LetterOf(string(b))
	l := sample.LetterOf(unsafe.String(&b[0], len(b)))
	got := letter.Copy(l)
	packed, e := letter.Pack(l)
	sample.Spoil(b)
	checkLetter(t, "Copy", got, api.OK, want, api.OK)
	if packed != formOf(want) || e != api.OK {
		t.Errorf("Pack became %x, %d", packed, e)
	}
}

func TestTextsOfAnUnpackedLetterAreNew(t *testing.T) {
	for _, want := range smallLetters() {
		b := []byte(formOf(want))
		l, e := letter.Unpack(unsafe.String(&b[0], len(b)))
		sample.Spoil(b)
		checkLetter(t, "Unpack", l, e, want, api.OK)
	}
}

func TestTextsOfOneAnswerAreApart(t *testing.T) {
	// What is handed in are beginnings of one text.
	s := "one text"
	l := api.Letter{S: s, T: s[:3], Body: s[:1], Pairs: []api.Pair{pair(s, s[:2])}, Intents: []api.Intent{intent(s, 1, true), intent(s, 2, false)}}
	unpacked, _ := letter.Unpack(formOf(l))
	for _, got := range []api.Letter{letter.Copy(l), unpacked} {
		var at []*byte
		for _, text := range sample.Texts(got) {
			p := unsafe.StringData(text)
			if slices.Contains(at, p) || p == unsafe.StringData(s) {
				t.Errorf("%q stands twice in one memory", text)
			}
			at = append(at, p)
		}
	}
}

// R3

func TestNilAndNoElementsAreTheSame(t *testing.T) {
	for _, l := range append(smallLetters(), api.Letter{Kind: -1}, api.Letter{Kind: 256}) {
		none := l
		if len(l.Pairs) == 0 {
			l.Pairs, none.Pairs = nil, []api.Pair{}
		}
		if len(l.Intents) == 0 {
			l.Intents, none.Intents = nil, []api.Intent{}
		}
		if one, two := askAll(l), askAll(none); one != two {
			t.Errorf("%s of nil, %s of no element", one, two)
		}
		if !letter.Same(l, none) || !letter.Same(none, l) || !letter.Same(none, none) {
			t.Errorf("Same tells nil from no element in %s", name(l))
		}
		checkCopy(t, none)
	}
}

// P1, R1, R8

func TestAnyArgument(t *testing.T) {
	d := sample.Dice(135)
	numbers := append(badNumbers(0), 0, 1, mostKind, mostNumber)
	for range 10000 {
		l := thrown(&d)
		if d.Below(2) == 0 {
			l = withNumber(l, d.Below(places), sample.Pick(&d, numbers))
			l.Intents = append(l.Intents, intent(string(sample.Bytes(d.Below(200))), sample.Pick(&d, numbers), true))
			l.Body = string(sample.Bytes(d.Below(200)))
		}
		other, s := thrown(&d), string(sample.Bytes(d.Below(60)))
		tell := func() string {
			unpacked, e := letter.Unpack(s)
			return fmt.Sprintf("%s %t %s %d", askAll(l), letter.Same(l, other), name(unpacked), e)
		}
		if one, two := tell(), tell(); one != two {
			t.Errorf("%s is asked %q: %.300s, then %.300s", name(l), s, one, two)
		}
		checkUnpackAsAsked(t, s)
	}
}

func TestListsAndTextsOfAnyLength(t *testing.T) {
	for _, l := range []api.Letter{
		{Kind: math.MaxInt, Code: math.MinInt},
		{Pairs: make([]api.Pair, 1<<20)},
		{Intents: make([]api.Intent, 1<<20)},
		{S: long(1 << 22)},
		{Body: long(1 << 22), Pairs: make([]api.Pair, 1<<16), Intents: make([]api.Intent, 1<<16)},
	} {
		checkErr(t, l, wrongWith(l))
		checkPack(t, l, "", wrongWith(l))
		checkSame(t, l, apart(l), true)
		checkSame(t, l, api.Letter{}, false)
		checkCopy(t, l)
	}
	checkUnpack(t, string(make([]byte, 1<<24)), api.Letter{}, api.ErrLarge)
}
