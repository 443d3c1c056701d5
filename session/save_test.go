package session_test

import (
	"math"
	"slices"
	"strings"
	"testing"

	"shelfmark/api"
	"shelfmark/pack"
	"shelfmark/sample"
	"shelfmark/session"
)

// nine is a beginning with which no number's form goes on.
const nine = "\xff\xff\xff\xff\xff\xff\xff\xff\xff"

// loadError is what Load has to find wrong with a text, told by what is read when.
func loadError(s string) api.Errno {
	b, at := []byte(s), 0
	var n [2]int
	for i := range n {
		var e api.Errno
		if n[i], at, e = pack.GetNum(b, at); e != api.OK {
			return e
		}
	}
	if max(n[0], n[1]) > mostNumber {
		return api.ErrForm
	}
	l, at, e := pack.GetTexts(b, at, mostWaiting, mostBytes)
	if e == api.OK && (len(l) > n[1] || at != len(b)) {
		return api.ErrForm
	}
	return e
}

// P15.3

func TestSaveIsTheForms(t *testing.T) {
	for _, c := range []struct {
		s    state
		want string
	}{
		{state{}, "\x00\x00\x00"},
		{state{mark: 1}, "\x01\x00\x00"},
		{state{sent: 1}, "\x00\x01\x00"},
		{state{sent: 2, waits: []string{"b"}}, "\x00\x02\x01\x01b"},
		{state{mark: 300, sent: 128, waits: []string{"", "ab"}}, "\xac\x02\x80\x01\x02\x00\x02ab"},
		{state{mark: mostNumber, sent: mostNumber, waits: []string{"\x00"}}, "\x80\x80\x80\x80\x80\x20\x80\x80\x80\x80\x80\x20\x01\x01\x00"},
	} {
		if got := load(t, c.s).Save(); got != c.want || c.s.form() != c.want {
			t.Errorf("Save of %s = %x, not %x", name(c.s), got, c.want)
		}
	}
}

func TestSaveTellsWhatWasDone(t *testing.T) {
	e := session.New()
	var want state
	for i, body := range bodies() {
		want.sent++
		want.waits = append(want.waits, body)
		checkSend(t, e, body, want.sent, api.OK)
		if i%3 == 1 {
			want.mark++
			checkTake(t, e, want.mark, body, true)
		}
		if i%4 == 3 {
			want.waits = want.waits[2:]
			checkAcked(t, e, want.sent-len(want.waits), 2)
		}
		checkEnd(t, e, want)
	}
}

func TestLoadIsTheEndWhoseSaveItIs(t *testing.T) {
	for _, s := range states() {
		checkLoad(t, s.form(), api.OK)
		checkEnd(t, load(t, s), s)
	}
}

// It goes on as the one that was saved.
func TestALoadedEndGoesOn(t *testing.T) {
	for _, s := range states() {
		if s.mark == mostNumber || s.sent == mostNumber || len(s.waits) == mostWaiting {
			continue
		}
		e := load(t, s)
		checkTake(t, e, s.mark, "x", false)
		checkTake(t, e, s.mark+1, "x", true)
		checkSend(t, e, "y", s.sent+1, api.OK)
		all := slices.Concat(s.waits, []string{"y"})
		checkEnd(t, e, state{s.mark + 1, s.sent + 1, all})
		checkAcked(t, e, s.sent+1, len(all))
		checkEnd(t, e, state{mark: s.mark + 1, sent: s.sent + 1})
	}
}

func TestLoadErrorsInTheirOrder(t *testing.T) {
	large, tooMany, tooLong := sample.NumForm(mostNumber+1), sample.NumForm(mostWaiting+1), sample.NumForm(mostBytes+1)
	for _, c := range []struct {
		s string
		e api.Errno
	}{
		// The mark.
		{"", api.ErrShort},
		{"\x80", api.ErrShort},
		{"\x80\x00\x00\x00", api.ErrForm},
		{nine + "\x00\x00\x00", api.ErrForm},
		{large, api.ErrShort},
		// How many were sent.
		{"\x00", api.ErrShort},
		{"\x00\x80", api.ErrShort},
		{"\x00\x80\x00\x00", api.ErrForm},
		{"\x00" + nine, api.ErrForm},
		{large + "\x80", api.ErrShort},
		{large + "\x80\x00", api.ErrForm},
		// One of them above MaxNumber.
		{large + "\x00", api.ErrForm},
		{"\x00" + large, api.ErrForm},
		{large + large, api.ErrForm},
		{large + "\x00\x00", api.ErrForm},
		{"\x00" + large + "\x00", api.ErrForm},
		{"\x00" + large + "\x01\x05a", api.ErrForm},
		{large + "\x00" + tooMany, api.ErrForm},
		{"\x00" + large + tooMany, api.ErrForm},
		{sample.NumForm(math.MaxInt) + "\x00\x00", api.ErrForm},
		{"\x00" + sample.NumForm(math.MaxInt) + "\x00", api.ErrForm},
		// The list.
		{"\x00\x00", api.ErrShort},
		{"\x00\x00\x80", api.ErrShort},
		{"\x00\x00\x80\x00", api.ErrForm},
		{"\x00\x00" + nine, api.ErrForm},
		{"\x00\x00" + tooMany, api.ErrLarge},
		{"\x00\x00" + tooMany + strings.Repeat("\x00", mostWaiting+1), api.ErrLarge},
		{"\x00" + sample.NumForm(mostNumber) + tooMany + strings.Repeat("\x00", mostWaiting+1), api.ErrLarge},
		{"\x00\x00" + sample.NumForm(math.MaxInt), api.ErrLarge},
		{"\x00\x01\x01", api.ErrShort},
		{"\x00\x01\x01\x80\x00", api.ErrForm},
		{"\x00\x01\x01\x01", api.ErrShort},
		{"\x00\x01\x01\x02a", api.ErrShort},
		{"\x00\x01\x01" + tooLong, api.ErrLarge},
		{"\x00\x01\x01" + tooLong + long(mostBytes+1), api.ErrLarge},
		{"\x00\x01\x01" + sample.NumForm(math.MaxInt), api.ErrLarge},
		{"\x00\x01\x01" + sample.NumForm(mostBytes) + long(mostBytes-1), api.ErrShort},
		{"\x00\x02\x02\x01a\x01", api.ErrShort},
		{"\x00\x02\x02\x01a" + tooLong, api.ErrLarge},
		// More wait than were sent: behind what is wrong with the list.
		{"\x00\x00\x01\x01", api.ErrShort},
		{"\x00\x00\x01" + tooLong, api.ErrLarge},
		{"\x00\x00\x01\x00", api.ErrForm},
		{"\x05\x00\x01\x01a", api.ErrForm},
		{"\x00\x01\x02\x00\x00", api.ErrForm},
		{"\x00\x01\x02\x00", api.ErrShort},
		{"\x00\xff\x01" + sample.TextsForm(named(mostWaiting)...), api.ErrForm},
		// Something is left.
		{"\x00\x00\x00\x00", api.ErrForm},
		{"\x00\x02\x01\x01ab", api.ErrForm},
		{"\x00\x00\x01\x00\x00", api.ErrForm},
		{"\x00\x00\x00" + long(1<<20), api.ErrForm},
	} {
		if got := loadError(c.s); got != c.e {
			t.Errorf("the rule says %d of %.60x, not %d", got, c.s, c.e)
		}
		checkLoad(t, c.s, c.e)
	}
}

func TestLoadAtTheLimits(t *testing.T) {
	for _, s := range []state{
		{mostNumber, mostNumber, nil}, {mostNumber, 0, nil}, {0, mostNumber, nil},
		{0, 1, []string{long(mostBytes)}},
		{0, mostWaiting, make([]string, mostWaiting)},
		{mostNumber, mostNumber, make([]string, mostWaiting)},
		{0, mostWaiting + 1, named(mostWaiting)},
	} {
		checkLoad(t, s.form(), api.OK)
		checkLoad(t, s.form()+"\x00", api.ErrForm)
		checkLoad(t, s.form()[:len(s.form())-1], api.ErrShort)
	}
}

func TestLoadOfCutForms(t *testing.T) {
	for _, s := range states() {
		form := s.form()
		for n := range min(len(form), 600) {
			checkLoad(t, form[:n], api.ErrShort)
		}
		for _, behind := range []string{"\x00", "\x80", "a", form} {
			checkLoad(t, form+behind, api.ErrForm)
		}
	}
}

func TestLoadOfAllShortTexts(t *testing.T) {
	for _, b := range sample.Lists(7, 0, 1, 2, 'a', byte(0x80)) {
		checkLoad(t, string(b), loadError(string(b)))
	}
	for _, b := range sample.Lists(3, 0, 1, 2, 0x7f, 0x80, byte(0xff)) {
		checkLoad(t, string(b)+"\x00", loadError(string(b)+"\x00"))
		checkLoad(t, "\x00\x05"+string(b)+"aaa", loadError("\x00\x05"+string(b)+"aaa"))
	}
}

func TestLoadOfWhatDiceTurn(t *testing.T) {
	d := sample.Dice(153)
	few := states()
	for range 3000 {
		b := []byte(sample.Pick(&d, few).form())
		for range d.Below(3) {
			b[d.Below(min(len(b), 20))] = sample.Pick(&d, []byte{0, 1, 2, 3, 18, 'a', 0x7f, 0x80, 0x81, 0xff})
		}
		if d.Below(4) == 0 {
			b = b[:d.Below(len(b)+1)]
		}
		checkLoad(t, string(b), loadError(string(b)))
	}
}
