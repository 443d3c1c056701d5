package once_test

import (
	"maps"
	"math"
	"slices"
	"strings"
	"testing"

	"shelfmark/api"
	"shelfmark/once"
	"shelfmark/sample"
)

// Which text a Save is, is free: what here is told of its bytes is the form that the program has now, so that texts can be made that are nearly Saves.

// told is a client as a text tells it, right or not.
type told struct {
	client, floor int
	answers       []string
}

// formOfAnswer is the form of an answer to a request.
func formOfAnswer(a answer) string {
	there := "\x00"
	if a.reply.There {
		there = "\x01"
	}
	return sample.NumForm(a.number) + sample.NumForm(int(a.reply.Code)) + there + sample.NumForm(a.reply.Id) + sample.TextForm(sample.RowKey(a.reply.Rec))
}

// formsOf are the forms of some answers.
func formsOf(l []answer) []string {
	var forms []string
	for _, a := range l {
		forms = append(forms, formOfAnswer(a))
	}
	return forms
}

// formOf is a text that tells of some clients.
func formOf(l ...told) string {
	s := sample.NumForm(len(l))
	for _, c := range l {
		s += sample.NumForm(c.client) + sample.NumForm(c.floor) + sample.NumForm(len(c.answers)) + strings.Join(c.answers, "")
	}
	return s
}

// formOfState is what Save has to tell.
func formOfState(s state) string {
	var l []told
	for _, client := range slices.Sorted(maps.Keys(s)) {
		l = append(l, told{client, s[client].floor, formsOf(s[client].answers)})
	}
	return formOf(l...)
}

// load is the table whose Save a text is.
func load(t *testing.T, s string) *once.Table {
	t.Helper()
	tb, e := once.Load(s)
	if tb == nil || e != api.OK {
		t.Fatalf("Load of %d bytes %.60x = %t, %d", len(s), s, tb != nil, e)
	}
	return tb
}

// checkNone asks that a text is no Save.
func checkNone(t *testing.T, s string) {
	t.Helper()
	if tb, e := once.Load(s); tb != nil || e != api.ErrForm {
		t.Fatalf("Load of %d bytes %.60x = %t, %d", len(s), s, tb != nil, e)
	}
}

// checkText asks that a text is a Save, or is refused; and whether it is.
func checkText(t *testing.T, s string) bool {
	t.Helper()
	tb, e := once.Load(s)
	if e != api.OK {
		checkNone(t, s)
		return false
	}
	if tb == nil || tb.Save() != s {
		t.Fatalf("Load of %.60x is no table, or is saved otherwise", s)
	}
	return true
}

// P17.4

func TestSaveAndLoad(t *testing.T) {
	for _, s := range states() {
		saved := table(t, s).Save()
		if saved != formOfState(s) {
			t.Errorf("Save of %s = %.100x, not %.100x", name(s), saved, formOfState(s))
		}
		checkSame(t, load(t, saved), s)
		checkSame(t, load(t, load(t, saved).Save()), s)
	}
}

func TestSaveAndLoadOfAllSmallTables(t *testing.T) {
	seen := map[string]int{}
	for i, m := range memories(0, 8) {
		saved := table(t, of(2, m)).Save()
		checkSame(t, load(t, saved), of(2, m))
		if j, ok := seen[saved]; ok && len(m.answers) > 0 {
			t.Errorf("tables %d and %d have the same Save", i, j)
		}
		seen[saved] = i
	}
}

func TestSaveAndLoadOfAllReplies(t *testing.T) {
	seen := map[string]int{}
	for i, reply := range replies() {
		s := state{3: {0, []answer{{9, reply}}}}
		saved := table(t, s).Save()
		checkSame(t, load(t, saved), s)
		if j, ok := seen[saved]; ok && !same(reply, replies()[j]) {
			t.Errorf("replies %d and %d have the same Save", i, j)
		}
		seen[saved] = i
	}
}

// Whichever way tables that are the same were come by, they have the same Save.
func TestSaveHangsOnNoOrder(t *testing.T) {
	want := state{}
	for _, client := range clients() {
		want[client] = memory{3, answersTo(client%1000, 4, 5, 300, mostNumber)}
	}
	saved := table(t, want).Save()
	d := sample.Dice(174)
	for range 200 {
		tb := once.New()
		for _, client := range shuffled(&d, clients()) {
			m := want[client]
			// The floor's own answer is anything: it goes. Others that go stand below it.
			first := append([]answer{{3, sample.Pick(&d, replies())}}, m.answers...)
			if d.Below(2) == 0 {
				checkKeep(t, tb, client, 1+d.Below(2), marked(d.Below(9)), api.OK)
			}
			for _, a := range shuffled(&d, first) {
				checkKeep(t, tb, client, a.number, a.reply, api.OK)
			}
			checkFloor(t, tb, client, 3)
		}
		for _, other := range []*once.Table{tb, tb.Copy(), once.Join(tb, tb), load(t, tb.Save())} {
			if got := other.Save(); got != saved {
				t.Fatalf("Save = %.100x, not %.100x", got, saved)
			}
		}
	}
}

// shuffled is a list turned about by dice.
func shuffled[T any](d *sample.Dice, l []T) []T {
	l = slices.Clone(l)
	for i := range l {
		j := i + d.Below(len(l)-i)
		l[i], l[j] = l[j], l[i]
	}
	return l
}

func TestALoadedTableGoesOn(t *testing.T) {
	for _, s := range states() {
		saved := formOfState(s)
		one, two := load(t, saved), load(t, saved)
		want := state{}
		for client, m := range s {
			want[client] = m
			if _, ok := m.find(mostNumber - 2); !ok && m.floor < mostNumber-2 {
				checkKeep(t, one, client, mostNumber-2, marked(1), api.OK)
				want[client] = m.with(mostNumber-2, marked(1))
			}
			for _, a := range m.answers {
				checkKeep(t, one, client, a.number, marked(2), errorFor(want[client], a.number))
			}
		}
		checkSame(t, one, want)
		checkSame(t, two, s)
	}
}

// errorFor is what keeps an answer to a request from being kept that was answered once.
func errorFor(m memory, number int) api.Errno {
	if number <= m.floor {
		return api.ErrOld
	}
	return api.ErrThere
}

// Texts that are no Saves

func TestLoadOfTextsThatAreNoSaves(t *testing.T) {
	for _, s := range []string{
		"", "\x01", "\x80", "\x80\x00", "\x00\x00", "\x00a", "a", "shelf", "\xff", "\x01\x00", "\x01\x00\x00", "\x01\x00\x00\x00", "\x01\x00\x00\x01", "\x02\x00\x00\x00\x01\x00\x00",
		strings.Repeat("\x00", 100), strings.Repeat("\x01", 100), strings.Repeat("\xff", 100), strings.Repeat("k", 100000),
		// What is claimed to be there asks for no memory, and for no time.
		sample.NumForm(math.MaxInt), sample.NumForm(math.MaxInt) + formOf(told{1, 0, formsOf(answersTo(0, 1))})[1:], "\x01\x01\x00" + sample.NumForm(math.MaxInt), "\x01\x01\x00" + sample.NumForm(math.MaxInt) + formOfAnswer(answersTo(0, 1)[0]),
		sample.NumForm(1<<40) + strings.Repeat("\x00", 1000), "\x01\x01\x00\x01\x01\x00\x00\x00" + sample.NumForm(math.MaxInt) + "a",
	} {
		checkNone(t, s)
	}
	if !checkText(t, "\x00") {
		t.Error("the Save of the table that remembers nothing is refused")
	}
}

// isShort tells whether a text of up to nine bytes, all below 80, is a Save: of a table of one client with one answer, or of none.
func isShort(s string) bool {
	if len(s) < 9 {
		return s == "\x00"
	}
	// How many clients, the client, its floor, how many answers, the number, Code, There, Id and how long the record's text is.
	return s[0] == 1 && s[2] == 0 && s[3] == 1 && s[4] > 0 && s[6] < 2 && s[8] == 0
}

func TestLoadOfAllShortTexts(t *testing.T) {
	for _, b := range sample.Lists[byte](9, 0, 1, 2) {
		if got := checkText(t, string(b)); got != isShort(string(b)) {
			t.Errorf("whether %x is a Save: %t", b, got)
		}
	}
	for _, b := range sample.Lists[byte](5, 0, 1, 4, 0x7f, 0x80, 0x81, 0xff) {
		if got := checkText(t, string(b)); got != isShort(string(b)) {
			t.Errorf("whether %x is a Save: %t", b, got)
		}
	}
}

func TestLoadOfClientsThatMayNotBe(t *testing.T) {
	one := formsOf(answersTo(0, 3))
	four := formsOf(answersTo(0, 3, 5, 6, mostNumber))
	for _, l := range [][]told{
		// Beyond a limit.
		{{mostNumber + 1, 0, one}},
		{{math.MaxInt, 0, one}},
		{{1, 0, one}, {mostNumber + 1, 0, one}},
		{{1, mostNumber, four}},
		{{1, mostNumber + 1, four}},
		{{1, math.MaxInt, four}},
		// Not rising, or twice.
		{{2, 0, one}, {1, 0, one}},
		{{1, 0, one}, {1, 0, one}},
		{{1, 0, one}, {1, 0, formsOf(answersTo(0, 4))}},
		{{1, 2, four}, {1, 2, four}},
		{{1, 0, one}, {3, 0, one}, {2, 0, one}},
		// Without answers.
		{{1, 0, nil}},
		{{1, 2, nil}},
		{{1, 0, one}, {2, 0, nil}},
		{{0, 0, nil}, {2, 0, one}},
		// With a floor, and fewer than four answers: as the floor came to be, four were left.
		{{1, 1, one}},
		{{1, 2, one}},
		{{1, 2, four[:2]}},
		{{1, 2, four[:3]}},
		{{1, 2, four[1:]}},
		// With a floor that isn't below all of them.
		{{1, 3, four}},
		{{1, 4, four}},
		{{1, 5, four}},
		{{1, 300, four}},
		// With too many answers.
		{{1, 0, formsOf(answersTo(0, 3, 4, 5, 6, 7))}},
		{{1, 2, formsOf(answersTo(0, 3, 4, 5, 6, 7))}},
		{{1, 3, formsOf(answersTo(0, 3, 4, 5, 6, 7))}},
		{{1, 0, formsOf(answersTo(0, 1, 2, 3, 4, 5, 6, 7, 8, 9))}},
	} {
		checkNone(t, formOf(l...))
	}
	for _, l := range [][]told{{{mostNumber, 0, one}}, {{0, 0, one}, {1, 2, four}, {2, 1, four}, {3, 0, four}, {4, 0, four[:3]}}} {
		if !checkText(t, formOf(l...)) {
			t.Errorf("%s is refused", name(l))
		}
	}
}

func TestLoadOfAnswersThatMayNotBe(t *testing.T) {
	for _, numbers := range [][]int{{0}, {0, 1}, {mostNumber + 1}, {1, mostNumber + 1}, {math.MaxInt}, {2, 1}, {1, 1}, {1, 3, 2}, {1, 2, 2}, {1, 2, 3, 3}, {0, 1, 2, 3}, {4, 3, 2, 1}, {0, 1, 2, 3, 4}} {
		checkNone(t, formOf(told{1, 0, formsOf(answersTo(0, numbers...))}))
	}
	for _, reply := range []api.Reply{{Code: mostNumber + 1}, {Code: math.MaxInt}, {Id: mostNumber + 1}, {Id: math.MaxInt}} {
		checkNone(t, formOf(told{1, 0, formsOf([]answer{{1, reply}})}))
	}
	for _, r := range []api.Record{sample.LargeRecords()[0], {{Kind: api.Text, S: strings.Repeat("a", api.MaxText+1)}}} {
		checkNone(t, formOf(told{1, 0, formsOf([]answer{{1, api.Reply{Rec: r}}})}))
	}
	// Number, Code, There and Id, and what stands where a record has to.
	for _, there := range []string{"\x02", "\x03", "\x7f", "\x80\x01", "\x81\x00", "\x80\x00"} {
		checkNone(t, formOf(told{1, 0, []string{"\x01\x00" + there + "\x00\x00"}}))
	}
	for _, rec := range []string{"\x00", "a", "\x04", "\x02", "\x02aaaaaaa", "\x02aaaaaaaaa", "\x03", "\x03a", "\x03a\x00", "\x03a\x00\x01", "\x03a\x00\x00\x00", "\x01\x00", "\x01\x01\x01\x01\x01"} {
		checkNone(t, formOf(told{1, 0, []string{"\x01\x00\x00\x00" + sample.TextForm(rec)}}))
	}
	for _, rec := range []string{"", "\x01", "\x02aaaaaaaa", "\x03a\x00\x00", "\x03\x00\xff\x00\x00", "\x01\x01\x01\x01"} {
		if s := formOf(told{1, 0, []string{"\x01\x00\x01\x00" + sample.TextForm(rec)}}); !checkText(t, s) {
			t.Errorf("%x is refused", s)
		}
	}
}

// Nothing may be missing, and nothing left over.
func TestLoadOfPiecesOfSaves(t *testing.T) {
	for _, s := range states() {
		saved := formOfState(s)
		for n := range len(saved) {
			checkNone(t, saved[:n])
		}
		for _, more := range []string{"\x00", "\x01", "a", "\x80", saved, formOfState(few())} {
			checkNone(t, saved+more)
		}
		checkNone(t, "\x00"+saved)
	}
}

// Numbers have one form each, also where a longer one would tell the same.
func TestLoadOfLongerForms(t *testing.T) {
	right := []string{"\x01", "\x02", "\x00", "\x01", "\x03", "\x05", "\x01", "\x06", "\x04", "\x03a\x00\x00"}
	if s := strings.Join(right, ""); !checkText(t, s) {
		t.Fatalf("%x is refused", s)
	}
	for i := range len(right) - 1 {
		l := slices.Clone(right)
		l[i] = string([]byte{l[i][0] | 0x80, 0})
		checkNone(t, strings.Join(l, ""))
		l[i] = string([]byte{right[i][0] | 0x80, 0x80, 0})
		checkNone(t, strings.Join(l, ""))
	}
}

// checkLimits asks a table that was come by in whatever way whether one like it can be come by by Keep.
func checkLimits(t *testing.T, s string) {
	t.Helper()
	tb := load(t, s)
	want := state{}
	// If there are clients beyond these, checkSame tells.
	for client := range 1 << 7 {
		var m memory
		for _, number := range tb.Known(client) {
			reply, _ := tb.Look(client, number)
			m.answers = append(m.answers, answer{number, reply})
		}
		m.floor = tb.Floor(client)
		if len(m.answers) > window || m.floor > 0 && len(m.answers) < window {
			t.Fatalf("Load of %.100x remembers %s", s, name(m))
		}
		if len(m.answers) > 0 {
			want[client] = m
		}
	}
	checkSame(t, tb, want)
}

func TestLoadOfTurnedBytes(t *testing.T) {
	s := state{1: {2, answersTo(0, 3, 5, 6, 7)}, 3: {0, []answer{{1, api.Reply{There: true}}, {200, api.Reply{Rec: api.Record{sample.Text("a")}}}}}}
	saved := formOfState(s)
	saves := 0
	for i := range len(saved) {
		for by := range 1 << 8 {
			b := []byte(saved)
			b[i] = byte(by)
			if checkText(t, string(b)) {
				saves++
				checkLimits(t, string(b))
			}
		}
	}
	// Other replies and other numbers make other tables.
	if saves < 100 {
		t.Errorf("only %d texts were Saves", saves)
	}
}

func TestLoadOfWhatDiceTurn(t *testing.T) {
	d := sample.Dice(175)
	few := []string{formOfState(few())}
	for _, m := range memories(0, 6) {
		few = append(few, formOfState(of(1, m)))
	}
	for range 30000 {
		b := []byte(sample.Pick(&d, few))
		for range 1 + d.Below(3) {
			b[d.Below(len(b))] = sample.Pick(&d, []byte{0, 1, 2, 3, 4, 5, 6, 0x7f, 0x80, 0x81, 0xff})
		}
		if d.Below(4) == 0 {
			b = append(b[:d.Below(len(b)+1)], sample.Pick(&d, few)...)
		}
		checkText(t, string(b))
	}
}
