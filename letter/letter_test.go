package letter_test

import (
	"fmt"
	"math"
	"reflect"
	"slices"
	"testing"

	"shelfmark/api"
	"shelfmark/letter"
	"shelfmark/sample"
)

// P13.1

func TestCheckOfRightLetters(t *testing.T) {
	for _, l := range rightLetters() {
		checkErr(t, l, api.OK)
	}
}

func TestCheckOfOtherLetters(t *testing.T) {
	for _, f := range wrongLetters() {
		checkErr(t, f.l, f.e)
	}
}

func TestCheckOfEachNumber(t *testing.T) {
	for place := range places {
		for _, n := range []int{0, 1, mostOf(place) - 1, mostOf(place)} {
			checkErr(t, withNumber(api.Letter{}, place, n), api.OK)
		}
		for _, n := range badNumbers(place) {
			checkErr(t, withNumber(api.Letter{}, place, n), api.ErrArg)
		}
	}
	for place := range 4 {
		checkErr(t, withVersion(api.Letter{}, 4, place, mostNumber), api.OK)
		for _, n := range badNumbers(1) {
			checkErr(t, withVersion(api.Letter{}, 4, place, n), api.ErrArg)
		}
	}
}

func TestCheckAsksNumbersFirst(t *testing.T) {
	for _, l := range largeLetters() {
		checkErr(t, withNumber(l, 0, mostKind+1), api.ErrArg)
		checkErr(t, withNumber(l, 7, -1), api.ErrArg)
		checkErr(t, withVersion(l, 1, 0, -1), api.ErrArg)
		checkErr(t, withVersion(l, 1, 0, mostNumber), wrongWith(withVersion(l, 1, 0, mostNumber)))
	}
	// Also those of intents that are too many.
	checkErr(t, withVersion(api.Letter{}, mostItems+1, mostItems, mostNumber+1), api.ErrArg)
	checkErr(t, withVersion(api.Letter{}, mostItems+1, mostItems, -1), api.ErrArg)
	checkErr(t, withVersion(api.Letter{}, 1000, 999, math.MinInt), api.ErrArg)
	checkErr(t, withVersion(api.Letter{}, mostItems+1, mostItems, mostNumber), api.ErrLarge)
}

func TestCheckOfTextsThatStandInManyPlaces(t *testing.T) {
	s := long(mostBytes)
	all := api.Letter{S: s, T: s, Body: s, Pairs: slices.Repeat([]api.Pair{pair(s, s)}, mostItems), Intents: slices.Repeat([]api.Intent{intent(s, 1, true)}, mostItems)}
	checkErr(t, all, api.ErrLarge)
	checkPack(t, all, "", api.ErrLarge)
}

func TestPackIsTheForms(t *testing.T) {
	for _, c := range []struct {
		l    api.Letter
		want string
	}{
		{api.Letter{}, "\x00\x00\x00\x00\x00\x00\x00\x00\x00\x00\x00\x00\x00\x00"},
		{api.Letter{Kind: 1, To: 2, S: "a", Yes: true}, "\x01\x00\x02\x00\x00\x00\x00\x00\x01\x01a\x00\x00\x00\x00"},
		{sample.Letter(), "\x01\x02\x03\x04\x05\x06\x07\x08\x01\x01s\x02tt\x04body\x02\x01a\x011\x00\x03two\x03\x01e\x09\x01\x02ee\xac\x02\x00\x00\x00\x01"},
		{api.Letter{Kind: mostKind, D: mostNumber, Code: 300}, "\xff\x01\x00\x00\x00\x00\x00\x80\x80\x80\x80\x80\x20\xac\x02\x00\x00\x00\x00\x00\x00"},
		{api.Letter{Body: long(128), Pairs: []api.Pair{pair("ä", "\x00\xff")}}, "\x00\x00\x00\x00\x00\x00\x00\x00\x00\x00\x00\x80\x01" + long(128) + "\x01\x02ä\x02\x00\xff\x00"},
		{api.Letter{Pairs: make([]api.Pair, 128), Intents: make([]api.Intent, 1)}, "\x00\x00\x00\x00\x00\x00\x00\x00\x00\x00\x00\x00\x80\x01" + string(make([]byte, 256)) + "\x01\x00\x00\x00"},
	} {
		checkPack(t, c.l, c.want, api.OK)
	}
}

func TestPackOfAllLetters(t *testing.T) {
	for _, l := range rightLetters() {
		checkPack(t, l, formOf(l), api.OK)
	}
	for _, f := range wrongLetters() {
		checkPack(t, f.l, "", f.e)
	}
}

func TestLettersThatDiceThrow(t *testing.T) {
	d := sample.Dice(13)
	for range 20000 {
		l := thrown(&d)
		e := wrongWith(l)
		checkErr(t, l, e)
		if e != api.OK {
			checkPack(t, l, "", e)
			continue
		}
		checkPack(t, l, formOf(l), api.OK)
		checkUnpack(t, formOf(l), l, api.OK)
	}
}

// P13.3

func checkSame(t *testing.T, a, b api.Letter, want bool) {
	t.Helper()
	if got := letter.Same(a, b); got != want {
		t.Errorf("Same(%s, %s) = %t", name(a), name(b), got)
	}
}

func TestSameOfAllSmallLetters(t *testing.T) {
	l := smallLetters()
	for i, a := range l {
		for j, b := range l {
			if alike(a, b) != (i == j) {
				t.Fatalf("%s stands among the samples twice", name(a))
			}
			checkSame(t, a, b, i == j)
		}
	}
}

func TestSameOfAllLetters(t *testing.T) {
	for _, l := range rightLetters() {
		checkSame(t, l, apart(l), true)
		checkSame(t, l, api.Letter{}, alike(l, api.Letter{}))
		checkSame(t, l, sample.Letter(), alike(l, sample.Letter()))
	}
	for _, f := range wrongLetters() {
		checkSame(t, f.l, apart(f.l), true)
		checkSame(t, f.l, sample.Letter(), false)
		checkSame(t, api.Letter{}, f.l, false)
	}
}

// others are values that differ from v in one of its fields each.
func others[T any](v T) []T {
	var l []T
	for i := range reflect.TypeFor[T]().NumField() {
		other := v
		field := reflect.ValueOf(&other).Elem().Field(i)
		switch field.Kind() {
		case reflect.Int:
			field.SetInt(field.Int() + 1)
		case reflect.String:
			field.SetString(field.String() + "\x00")
		case reflect.Bool:
			field.SetBool(!field.Bool())
		case reflect.Slice:
			field.Set(reflect.Append(field.Slice3(0, field.Len(), field.Len()), reflect.Zero(field.Type().Elem())))
		default:
			panic("a field of another kind")
		}
		l = append(l, other)
	}
	return l
}

func TestSameAsksEachField(t *testing.T) {
	for _, l := range []api.Letter{{}, sample.Letter(), items(3, 300), {Kind: -1, A: math.MaxInt - 1, Code: -5}} {
		for _, other := range others(l) {
			checkSame(t, l, other, false)
			checkSame(t, other, l, false)
			checkSame(t, other, apart(other), true)
		}
	}
	for i, p := range sample.Letter().Pairs {
		for _, other := range others(p) {
			l := sample.Letter()
			l.Pairs[i] = other
			checkSame(t, l, sample.Letter(), false)
		}
	}
	for i, x := range sample.Letter().Intents {
		for _, other := range others(x) {
			l := sample.Letter()
			l.Intents[i] = other
			checkSame(t, l, sample.Letter(), false)
		}
	}
}

func TestSameAsksTheOrder(t *testing.T) {
	l := sample.Letter()
	slices.Reverse(l.Pairs)
	checkSame(t, l, sample.Letter(), false)
	l = sample.Letter()
	slices.Reverse(l.Intents)
	checkSame(t, sample.Letter(), l, false)
	// What stands in one field counts for no other one.
	checkSame(t, api.Letter{S: "a"}, api.Letter{T: "a"}, false)
	checkSame(t, api.Letter{A: 1}, api.Letter{B: 1}, false)
	checkSame(t, api.Letter{S: "a", T: "b"}, api.Letter{S: "ab"}, false)
	checkSame(t, api.Letter{Pairs: []api.Pair{pair("a", "")}}, api.Letter{Pairs: []api.Pair{pair("", "a")}}, false)
	checkSame(t, api.Letter{Pairs: []api.Pair{pair("a", "")}}, api.Letter{Intents: []api.Intent{intent("a", 0, false)}}, false)
}

func TestSameOfLettersThatDiceThrow(t *testing.T) {
	d := sample.Dice(133)
	for range 5000 {
		a, b := thrown(&d), thrown(&d)
		if d.Below(2) == 0 {
			b = sample.Pick(&d, others(a))
		}
		checkSame(t, a, b, alike(a, b))
		checkSame(t, a, apart(a), true)
	}
}

func checkCopy(t *testing.T, l api.Letter) {
	t.Helper()
	got := letter.Copy(l)
	checkLetter(t, "Copy", got, api.OK, l, api.OK)
	checkSame(t, got, l, true)
}

func TestCopyIsTheSame(t *testing.T) {
	for _, l := range rightLetters() {
		checkCopy(t, l)
	}
	// Letters that aren't right have copies too.
	for _, f := range wrongLetters() {
		checkCopy(t, f.l)
	}
	d := sample.Dice(134)
	for range 5000 {
		checkCopy(t, thrown(&d))
	}
}

// The chapter's examples

func TestExamples(t *testing.T) {
	l := api.Letter{Kind: 1, To: 2, S: "a", Yes: true}
	first := "\x01\x00\x02\x00\x00\x00\x00\x00\x01\x01\x61\x00\x00\x00\x00"
	checkPack(t, l, first, api.OK)
	checkUnpack(t, first, l, api.OK)
	checkUnpack(t, string(make([]byte, 15)), api.Letter{}, api.ErrForm)
	checkUnpack(t, string(make([]byte, 14)), api.Letter{}, api.OK)
	checkUnpack(t, string(make([]byte, 13)), api.Letter{}, api.ErrShort)
	checkUnpack(t, first[:8]+"\x02"+first[9:], api.Letter{}, api.ErrForm)
	if s := fmt.Sprintf("%x", first); s != "010002000000000001016100000000" {
		t.Errorf("the first one is %s", s)
	}
}
