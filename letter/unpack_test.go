package letter_test

import (
	"math"
	"strings"
	"testing"

	"shelfmark/api"
	"shelfmark/letter"
	"shelfmark/sample"
)

// P13.2

func TestUnpackOfRightLetters(t *testing.T) {
	for _, l := range rightLetters() {
		checkUnpack(t, formOf(l), l, api.OK)
	}
}

func TestUnpackOfWhatIsCutOff(t *testing.T) {
	for _, l := range append(smallLetters(), items(20, 20)) {
		s := formOf(l)
		for n := range len(s) {
			checkUnpack(t, s[:n], api.Letter{}, api.ErrShort)
		}
	}
	for _, l := range sized(mostBytes) {
		s := formOf(l)
		checkUnpack(t, s[:len(s)-1], api.Letter{}, api.ErrShort)
		checkUnpack(t, s[:len(s)/2], api.Letter{}, api.ErrShort)
	}
}

func TestUnpackOfWhatHasSomethingLeft(t *testing.T) {
	for _, l := range append(smallLetters(), items(mostItems, mostItems)) {
		for _, behind := range []string{"\x00", "\x01", "\x80", "\xff\xff", formOf(sample.Letter())} {
			checkUnpack(t, formOf(l)+behind, api.Letter{}, api.ErrForm)
		}
	}
	for _, l := range sized(mostBytes - 1) {
		checkUnpack(t, formOf(l)+"\x00", api.Letter{}, api.ErrForm)
	}
}

// Beyond MaxPayload bytes nothing is read.
func TestUnpackOfTooManyBytes(t *testing.T) {
	for _, l := range sized(mostBytes) {
		checkUnpack(t, formOf(l)+"\x00", api.Letter{}, api.ErrLarge)
	}
	for _, l := range sized(mostBytes + 1) {
		checkUnpack(t, formOf(l), api.Letter{}, api.ErrLarge)
	}
	for _, begin := range []string{"", "\x00", "\x80\x00", "\x80\x02", strings.Repeat("\xff", 9)} {
		checkUnpack(t, begin+string(make([]byte, mostBytes-len(begin))), api.Letter{}, api.ErrForm)
		checkUnpack(t, begin+string(make([]byte, mostBytes+1-len(begin))), api.Letter{}, api.ErrLarge)
		checkUnpack(t, begin+string(make([]byte, 1<<22)), api.Letter{}, api.ErrLarge)
	}
	checkUnpack(t, strings.Repeat("\xff", mostBytes+1), api.Letter{}, api.ErrLarge)
	checkUnpack(t, strings.Repeat("\xff", mostBytes), api.Letter{}, api.ErrForm)
}

func TestUnpackOfWhatIsNoRightLetter(t *testing.T) {
	for _, f := range wrongLetters() {
		// Numbers below 0 have no form; what is too large is found as it is read.
		s := formOf(f.l)
		want := unpackError(s)
		checkUnpack(t, s, api.Letter{}, want)
		if want == api.OK {
			t.Errorf("%s has the form of a right letter", name(f.l))
		}
	}
}

const nine = "\xff\xff\xff\xff\xff\xff\xff\xff\xff"

// zeros are n forms of the number 0, or of texts and lists without anything.
func zeros(n int) string {
	return string(make([]byte, n))
}

// The places of a letter's forms, where each form ahead of it has one byte.
const (
	yesPlace    = 8
	textPlace   = 9
	pairsPlace  = 12
	intentPlace = 13
	forms       = 14
)

// At each place the form may be short, may be none, or may be beyond its limit; what stands behind it isn't asked.
func TestUnpackErrorsAtEachPlace(t *testing.T) {
	for place := range forms {
		for _, c := range []struct {
			form string
			e    api.Errno
		}{
			{"", api.ErrShort}, {"\x80", api.ErrShort}, {nine[1:], api.ErrShort},
			{"\x80\x00", api.ErrForm}, {"\x81\x00", api.ErrForm}, {nine, api.ErrForm}, {nine + "\x01", api.ErrForm},
		} {
			checkUnpack(t, zeros(place)+c.form, api.Letter{}, c.e)
			if c.e == api.ErrForm {
				checkUnpack(t, zeros(place)+c.form+zeros(forms-place-1), api.Letter{}, api.ErrForm)
				checkUnpack(t, zeros(place)+c.form+nine, api.Letter{}, api.ErrForm)
			}
		}
	}
}

func TestUnpackNumbersAtTheirLimits(t *testing.T) {
	for place := range places {
		at := func(n int) string { return zeros(place) + sample.NumForm(n) + zeros(forms-place-1) }
		for _, n := range []int{0, 1, 127, 128, mostOf(place) - 1, mostOf(place)} {
			checkUnpack(t, at(n), withNumber(api.Letter{}, place, n), api.OK)
		}
		for _, n := range badNumbers(place) {
			if n < 0 {
				continue
			}
			checkUnpack(t, at(n), api.Letter{}, api.ErrForm)
			// Ahead of what is missing behind it.
			checkUnpack(t, zeros(place)+sample.NumForm(n), api.Letter{}, api.ErrForm)
		}
	}
}

func TestUnpackNumbersThatSayYesOrNo(t *testing.T) {
	entry := zeros(intentPlace) + "\x01\x01e\x07"
	checkUnpack(t, zeros(yesPlace)+"\x00"+zeros(forms-yesPlace-1), api.Letter{}, api.OK)
	checkUnpack(t, zeros(yesPlace)+"\x01"+zeros(forms-yesPlace-1), api.Letter{Yes: true}, api.OK)
	checkUnpack(t, entry+"\x00", api.Letter{Intents: []api.Intent{intent("e", 7, false)}}, api.OK)
	checkUnpack(t, entry+"\x01", api.Letter{Intents: []api.Intent{intent("e", 7, true)}}, api.OK)
	for _, n := range []int{2, 3, 127, 128, 255, 256, 257, mostNumber, mostNumber + 1, math.MaxInt} {
		checkUnpack(t, zeros(yesPlace)+sample.NumForm(n)+zeros(forms-yesPlace-1), api.Letter{}, api.ErrForm)
		checkUnpack(t, zeros(yesPlace)+sample.NumForm(n), api.Letter{}, api.ErrForm)
		checkUnpack(t, entry+sample.NumForm(n), api.Letter{}, api.ErrForm)
	}
}

func TestUnpackVersionsAtTheirLimits(t *testing.T) {
	begin := zeros(intentPlace) + "\x02\x01e\x07\x01\x00"
	for _, n := range []int{0, 1, 128, mostNumber - 1, mostNumber} {
		checkUnpack(t, begin+sample.NumForm(n)+"\x00", api.Letter{Intents: []api.Intent{intent("e", 7, true), intent("", n, false)}}, api.OK)
	}
	for _, n := range []int{mostNumber + 1, mostNumber + 2, 1 << 41, math.MaxInt} {
		checkUnpack(t, begin+sample.NumForm(n)+"\x00", api.Letter{}, api.ErrForm)
		checkUnpack(t, begin+sample.NumForm(n), api.Letter{}, api.ErrForm)
		checkUnpack(t, begin+sample.NumForm(n)+"\x80\x00", api.Letter{}, api.ErrForm)
	}
}

// A text may claim any length: it is short then, however long it would be.
func TestUnpackTextsOfAnyLength(t *testing.T) {
	for place := textPlace; place < pairsPlace; place++ {
		for _, n := range []int{1, 127, 128, mostBytes, mostBytes + 1, 1 << 30, mostNumber + 1, math.MaxInt} {
			checkUnpack(t, zeros(place)+sample.NumForm(n), api.Letter{}, api.ErrShort)
			checkUnpack(t, zeros(place)+sample.NumForm(n)+long(min(n-1, 1000)), api.Letter{}, api.ErrShort)
		}
	}
	for _, n := range []int{1, 128, mostBytes + 1, mostNumber + 1, math.MaxInt} {
		checkUnpack(t, zeros(pairsPlace)+"\x01"+sample.NumForm(n), api.Letter{}, api.ErrShort)
		checkUnpack(t, zeros(pairsPlace)+"\x01\x01a"+sample.NumForm(n), api.Letter{}, api.ErrShort)
		checkUnpack(t, zeros(intentPlace)+"\x01"+sample.NumForm(n), api.Letter{}, api.ErrShort)
	}
}

func TestUnpackOfHowMany(t *testing.T) {
	pairs, intents := zeros(pairsPlace), zeros(intentPlace)
	// Too many: asked when their number is read, ahead of all that is missing or wrong behind it.
	for _, n := range []int{mostItems + 1, mostItems + 2, 1000, 1 << 20, mostNumber} {
		for _, behind := range []string{"", "\x80\x00", nine, zeros(1000)} {
			checkUnpack(t, pairs+sample.NumForm(n)+behind, api.Letter{}, api.ErrLarge)
			checkUnpack(t, intents+sample.NumForm(n)+behind, api.Letter{}, api.ErrLarge)
		}
	}
	// A number that no letter has is named ahead of too many.
	for _, n := range []int{mostNumber + 1, 1 << 41, math.MaxInt} {
		checkUnpack(t, pairs+sample.NumForm(n), api.Letter{}, api.ErrForm)
		checkUnpack(t, intents+sample.NumForm(n)+zeros(1000), api.Letter{}, api.ErrForm)
	}
	checkUnpack(t, pairs+sample.NumForm(mostItems), api.Letter{}, api.ErrShort)
	checkUnpack(t, pairs+sample.NumForm(mostItems)+zeros(2*mostItems), api.Letter{}, api.ErrShort)
	checkUnpack(t, pairs+sample.NumForm(mostItems)+zeros(2*mostItems+1), api.Letter{Pairs: make([]api.Pair, mostItems)}, api.OK)
	checkUnpack(t, pairs+sample.NumForm(mostItems)+zeros(2*mostItems)+sample.NumForm(mostItems+1), api.Letter{}, api.ErrLarge)
	checkUnpack(t, intents+sample.NumForm(mostItems), api.Letter{}, api.ErrShort)
	checkUnpack(t, intents+sample.NumForm(mostItems)+zeros(3*mostItems), api.Letter{Intents: make([]api.Intent, mostItems)}, api.OK)
	checkUnpack(t, intents+sample.NumForm(mostItems)+zeros(3*mostItems+1), api.Letter{}, api.ErrForm)
}

// What is wrong with an earlier form is named, whatever is wrong with a later one.
func TestUnpackErrorsInTheirOrder(t *testing.T) {
	tooMany, large := sample.NumForm(mostItems+1), sample.NumForm(mostNumber+1)
	for _, c := range []struct {
		s string
		e api.Errno
	}{
		{"", api.ErrShort},
		{"\x80\x02" + zeros(13), api.ErrForm},
		{"\x80\x02", api.ErrForm},
		{"\x80\x80\x02" + zeros(13), api.ErrForm},
		{zeros(2) + large + zeros(9) + tooMany, api.ErrForm},
		{zeros(7) + large + "\x02", api.ErrForm},
		{zeros(8) + "\x02" + "\x80", api.ErrForm},
		{zeros(9) + "\x05ab", api.ErrShort},
		{zeros(12) + tooMany + large, api.ErrLarge},
		{zeros(12) + "\x01\x00\x80\x00", api.ErrForm},
		{zeros(12) + "\x01\x02a", api.ErrShort},
		{zeros(12) + "\x01\x01a\x01b" + tooMany, api.ErrLarge},
		{zeros(12) + "\x02\x01a\x01b" + tooMany + "\x00\x00", api.ErrShort},
		{zeros(13) + "\x02\x00" + large + "\x05", api.ErrForm},
		{zeros(13) + "\x02\x00\x07\x05" + nine, api.ErrForm},
		{zeros(13) + "\x02\x00\x07\x01\x09a", api.ErrShort},
		{zeros(13) + "\x02\x00\x07\x01\x01a", api.ErrShort},
		{zeros(13) + "\x02\x00\x07\x01\x01a\x80\x00", api.ErrForm},
		{zeros(13) + "\x01\x00\x07\x01\x00", api.ErrForm},
		{zeros(15), api.ErrForm},
	} {
		checkUnpack(t, c.s, api.Letter{}, c.e)
	}
}

// checkUnpackAsAsked asks for the error of bytes, or for the letter whose bytes they are.
func checkUnpackAsAsked(t *testing.T, s string) {
	t.Helper()
	want := unpackError(s)
	if want != api.OK {
		checkUnpack(t, s, api.Letter{}, want)
		return
	}
	l, e := letter.Unpack(s)
	if e != api.OK || wrongWith(l) != api.OK || formOf(l) != s {
		t.Errorf("Unpack(%.60x) = %s, %d", s, name(l), e)
	}
	checkPack(t, l, s, api.OK)
}

func TestUnpackOfAllShortEnds(t *testing.T) {
	for _, b := range sample.Lists(7, 0, 1, 2, 'a', byte(0x80)) {
		checkUnpackAsAsked(t, zeros(yesPlace)+string(b))
		checkUnpackAsAsked(t, zeros(pairsPlace)+string(b))
		checkUnpackAsAsked(t, zeros(intentPlace)+"\x02"+string(b))
	}
	for _, b := range sample.Lists(3, 0, 1, 2, 0x7f, 0x80, byte(0xff)) {
		for place := range forms {
			checkUnpackAsAsked(t, zeros(place)+string(b)+zeros(forms-place-1))
		}
	}
}

func TestUnpackOfWhatDiceTurn(t *testing.T) {
	d := sample.Dice(132)
	for range 30000 {
		b := []byte(formOf(thrown(&d)))
		for range d.Below(3) {
			b[d.Below(len(b))] = sample.Pick(&d, []byte{0, 1, 2, 3, 14, 'a', 0x7f, 0x80, 0x81, 0xff})
		}
		if d.Below(4) == 0 {
			b = b[:d.Below(len(b)+1)]
		}
		checkUnpackAsAsked(t, string(b))
	}
}
