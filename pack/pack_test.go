package pack_test

import (
	"bytes"
	"math"
	"slices"
	"strings"
	"testing"

	"shelfmark/api"
	"shelfmark/pack"
)

// formOf is the form of a number by division, so that it leans on nothing of the package.
func formOf(n int) []byte {
	b := []byte{byte(n % 128)}
	for n /= 128; n > 0; n /= 128 {
		b[len(b)-1] += 128
		b = append(b, byte(n%128))
	}
	return b
}

// numbers are those at and about each border between two lengths of a form, and some between.
func numbers() []int {
	l := []int{0, 1, 2, 64, 300, 1000, 1 << 20, 1 << 40, math.MaxInt32, math.MaxInt - 1, math.MaxInt}
	for i := 7; i < 63; i += 7 {
		l = append(l, 1<<i-1, 1<<i, 1<<i+1)
	}
	return l
}

// extremes are numbers that no place, length or count is.
func extremes() []int {
	return []int{math.MinInt, math.MinInt + 1, -2, -1, math.MaxInt - 1, math.MaxInt}
}

// words are all rows of up to most bytes out of those that matter in a number's form.
func words(most int) [][]byte {
	all := [][]byte{nil}
	for from := 0; most > 0; most-- {
		to := len(all)
		for _, w := range all[from:to] {
			for _, c := range []byte{0x00, 0x01, 0x02, 0x7f, 0x80, 0xff} {
				all = append(all, append(bytes.Clone(w), c))
			}
		}
		from = to
	}
	return all
}

// P1.1

func TestNumIsTheForm(t *testing.T) {
	for _, c := range []struct {
		n    int
		want []byte
	}{
		{0, []byte{0x00}},
		{1, []byte{0x01}},
		{127, []byte{0x7f}},
		{128, []byte{0x80, 0x01}},
		{300, []byte{0xac, 0x02}},
		{16383, []byte{0xff, 0x7f}},
		{16384, []byte{0x80, 0x80, 0x01}},
		{math.MaxInt, []byte{0xff, 0xff, 0xff, 0xff, 0xff, 0xff, 0xff, 0xff, 0x7f}},
	} {
		if got := pack.Num(c.n); !bytes.Equal(got, c.want) {
			t.Errorf("Num(%d) = %x, not %x", c.n, got, c.want)
		}
	}
	for _, n := range numbers() {
		if got := pack.Num(n); !bytes.Equal(got, formOf(n)) {
			t.Errorf("Num(%d) = %x, not %x", n, got, formOf(n))
		}
	}
}

func TestNumBelowNoughtIsNothing(t *testing.T) {
	for _, n := range []int{-1, -2, -127, -128, -300, math.MinInt32, math.MinInt} {
		if got := pack.Num(n); len(got) != 0 {
			t.Errorf("Num(%d) = %x", n, got)
		}
	}
}

func TestTextIsTheForm(t *testing.T) {
	for _, s := range []string{"", "a", "ab", "\x00", "\x80\xff\x00", "ä", strings.Repeat("x", 127), strings.Repeat("y", 128), strings.Repeat("z", 70000)} {
		want := append(formOf(len(s)), s...)
		if got := pack.Text(s); !bytes.Equal(got, want) {
			t.Errorf("Text of %d bytes: %d bytes, not %d, or others", len(s), len(got), len(want))
		}
	}
	if got := pack.Text("ab"); !bytes.Equal(got, []byte{0x02, 0x61, 0x62}) {
		t.Errorf("Text(ab) = %x", got)
	}
}

func TestTextsIsTheForm(t *testing.T) {
	for _, l := range [][]string{nil, {}, {""}, {"a", ""}, {"", "", "ab"}, {"\xff\x00"}, slices.Repeat([]string{"x", "yy"}, 64), {strings.Repeat("z", 300)}} {
		want := formOf(len(l))
		for _, s := range l {
			want = append(append(want, formOf(len(s))...), s...)
		}
		if got := pack.Texts(l...); !bytes.Equal(got, want) {
			t.Errorf("Texts(%q) = %x, not %x", l, got, want)
		}
	}
}

func TestJoinIsThePartsBehindEachOther(t *testing.T) {
	for _, c := range []struct {
		parts [][]byte
		want  []byte
	}{
		{nil, nil},
		{[][]byte{nil}, nil},
		{[][]byte{nil, {}, nil}, nil},
		{[][]byte{{1}}, []byte{1}},
		{[][]byte{{2, 1}, nil, {}, {0}, {1, 2}}, []byte{2, 1, 0, 1, 2}},
	} {
		if got := pack.Join(c.parts...); !bytes.Equal(got, c.want) {
			t.Errorf("Join(%x) = %x, not %x", c.parts, got, c.want)
		}
	}
}

// P1.2

func TestGetNumReadsWhatNumWrites(t *testing.T) {
	for _, want := range numbers() {
		form := formOf(want)
		for _, ahead := range [][]byte{nil, {0x80}, {0xff, 0x00, 0x05}} {
			for _, behind := range [][]byte{nil, {0x00}, {0x80, 0xff}} {
				b := bytes.Join([][]byte{ahead, form, behind}, nil)
				n, next, e := pack.GetNum(b, len(ahead))
				if n != want || next != len(ahead)+len(form) || e != api.OK {
					t.Errorf("GetNum(%x, %d) = %d %d %d", b, len(ahead), n, next, e)
				}
			}
		}
	}
}

func TestGetNumErrors(t *testing.T) {
	for _, c := range []struct {
		b  []byte
		at int
		e  api.Errno
	}{
		{nil, 0, api.ErrShort},
		{nil, 1, api.ErrArg},
		{nil, -1, api.ErrArg},
		{[]byte{5, 6}, 2, api.ErrShort},
		{[]byte{5, 6}, 3, api.ErrArg},
		{[]byte{5, 6}, -1, api.ErrArg},
		{[]byte{5, 6}, math.MaxInt, api.ErrArg},
		{[]byte{5, 6}, math.MinInt, api.ErrArg},
		{[]byte{0x80}, 0, api.ErrShort},
		{[]byte{5, 0x80}, 1, api.ErrShort},
		{bytes.Repeat([]byte{0xff}, 8), 0, api.ErrShort},
		{bytes.Repeat([]byte{0xff}, 9), 0, api.ErrForm},
		{bytes.Repeat([]byte{0x80}, 9), 0, api.ErrForm},
		{bytes.Repeat([]byte{0xff}, 10), 1, api.ErrForm},
		{append(bytes.Repeat([]byte{0xff}, 9), 0x00), 0, api.ErrForm},
		{append(bytes.Repeat([]byte{0xff}, 9), 0x01), 0, api.ErrForm},
		{append(bytes.Repeat([]byte{0x80}, 8), 0x00), 0, api.ErrForm},
		{[]byte{0x80, 0x00}, 0, api.ErrForm},
		{[]byte{0xff, 0x80, 0x00}, 0, api.ErrForm},
		{[]byte{0x80, 0x00, 0x01}, 0, api.ErrForm},
	} {
		if n, next, e := pack.GetNum(c.b, c.at); n != 0 || next != 0 || e != c.e {
			t.Errorf("GetNum(%x, %d) = %d %d %d, not the error %d alone", c.b, c.at, n, next, e, c.e)
		}
	}
}

func TestGetNumTakesTheOneFormAlone(t *testing.T) {
	for _, b := range words(5) {
		n, next, e := pack.GetNum(b, 0)
		end := slices.IndexFunc(b, func(c byte) bool { return c < 0x80 })
		want := api.OK
		switch {
		case end < 0:
			want = api.ErrShort
		case end > 0 && b[end] == 0:
			want = api.ErrForm
		}
		if e != want {
			t.Errorf("GetNum(%x) has the error %d, not %d", b, e, want)
		} else if e != api.OK && (n != 0 || next != 0) {
			t.Errorf("GetNum(%x) = %d %d beside an error", b, n, next)
		} else if e == api.OK && (next != end+1 || !bytes.Equal(formOf(n), b[:next])) {
			t.Errorf("GetNum(%x) = %d %d", b, n, next)
		}
	}
}

// P1.3

func TestGetTextReadsWhatTextWrites(t *testing.T) {
	for _, want := range []string{"", "a", "\x00", "\xff\x80", strings.Repeat("x", 127), strings.Repeat("y", 128), strings.Repeat("z", 70000)} {
		form := append(formOf(len(want)), want...)
		for _, most := range []int{len(want), len(want) + 1, math.MaxInt} {
			b := bytes.Join([][]byte{{9, 0x80}, form, {1, 'q'}}, nil)
			s, next, e := pack.GetText(b, 2, most)
			if s != want || next != 2+len(form) || e != api.OK {
				t.Errorf("GetText of %d bytes, at most %d: %d bytes, %d %d", len(want), most, len(s), next, e)
			}
			if s, next, e = pack.GetText(form, 0, most); s != want || next != len(form) || e != api.OK {
				t.Errorf("GetText of %d bytes at the end, at most %d: %d bytes, %d %d", len(want), most, len(s), next, e)
			}
		}
	}
}

func TestGetTextErrors(t *testing.T) {
	for _, c := range []struct {
		b        []byte
		at, most int
		e        api.Errno
	}{
		{nil, 0, 9, api.ErrShort},
		{nil, 1, 9, api.ErrArg},
		{nil, -1, -1, api.ErrArg},
		{[]byte{1, 'a'}, 3, 9, api.ErrArg},
		{[]byte{1, 'a'}, 2, 9, api.ErrShort},
		{[]byte{0x80}, 0, 0, api.ErrShort},
		{[]byte{0x81, 0x00, 'a'}, 0, 0, api.ErrForm},
		{bytes.Repeat([]byte{0xff}, 20), 0, 0, api.ErrForm},
		{[]byte{2, 'a'}, 0, 2, api.ErrShort},
		{[]byte{2, 'a'}, 0, 1, api.ErrLarge},
		{[]byte{2, 'a', 'b'}, 0, 1, api.ErrLarge},
		{[]byte{1}, 0, 1, api.ErrShort},
		{[]byte{0}, 0, -1, api.ErrLarge},
		{[]byte{0}, 0, math.MinInt, api.ErrLarge},
		{append(formOf(math.MaxInt), 'a'), 0, math.MaxInt, api.ErrShort},
		{append(formOf(math.MaxInt), 'a'), 0, math.MaxInt - 1, api.ErrLarge},
		{append(formOf(math.MaxInt-9), 'a'), 0, math.MaxInt, api.ErrShort},
	} {
		if s, next, e := pack.GetText(c.b, c.at, c.most); s != "" || next != 0 || e != c.e {
			t.Errorf("GetText(%x, %d, %d) = %q %d %d, not the error %d alone", c.b, c.at, c.most, s, next, e, c.e)
		}
	}
}

func TestGetTextsReadsWhatTextsWrites(t *testing.T) {
	for _, want := range [][]string{nil, {""}, {"a", ""}, {"", "abc", "\xff\x00"}, slices.Repeat([]string{"x", "yyy"}, 100)} {
		form, longest := formOf(len(want)), 0
		for _, s := range want {
			form, longest = append(append(form, formOf(len(s))...), s...), max(longest, len(s))
		}
		b := bytes.Join([][]byte{{0xff}, form, {3, 0x80}}, nil)
		for _, most := range []int{longest, longest + 1, math.MaxInt} {
			for _, count := range []int{len(want), len(want) + 1, math.MaxInt} {
				l, next, e := pack.GetTexts(b, 1, count, most)
				if !slices.Equal(l, want) || next != 1+len(form) || e != api.OK {
					t.Errorf("GetTexts(%x, 1, %d, %d) = %q %d %d", b, count, most, l, next, e)
				}
			}
		}
	}
}

func TestGetTextsErrors(t *testing.T) {
	for _, c := range []struct {
		b               []byte
		at, count, most int
		e               api.Errno
	}{
		{nil, 0, 9, 9, api.ErrShort},
		{nil, 1, 9, 9, api.ErrArg},
		{nil, -1, -1, -1, api.ErrArg},
		{[]byte{0}, 2, 9, 9, api.ErrArg},
		{[]byte{0x80, 0x00}, 0, -1, -1, api.ErrForm},
		{[]byte{0x82}, 0, 0, 0, api.ErrShort},
		{[]byte{0}, 0, -1, 9, api.ErrLarge},
		{[]byte{0}, 0, math.MinInt, 9, api.ErrLarge},
		{[]byte{2, 1, 'a', 0}, 0, 1, 1, api.ErrLarge},
		{[]byte{2}, 0, 1, 1, api.ErrLarge},
		{[]byte{2}, 0, 2, 1, api.ErrShort},
		{[]byte{2, 1, 'a'}, 0, 2, 1, api.ErrShort},
		{[]byte{2, 1, 'a', 1}, 0, 2, 1, api.ErrShort},
		{[]byte{2, 1, 'a', 2, 'b', 'c'}, 0, 2, 1, api.ErrLarge},
		{[]byte{2, 2, 'a', 'b', 0x80, 0x00}, 0, 2, 1, api.ErrLarge},
		{[]byte{2, 1, 'a', 0x80, 0x00}, 0, 2, 1, api.ErrForm},
		{[]byte{2, 0x80, 0x00, 2, 'b', 'c'}, 0, 2, 1, api.ErrForm},
		{[]byte{1, 0}, 0, 1, -1, api.ErrLarge},
		{append(formOf(math.MaxInt), 0, 0), 0, math.MaxInt, math.MaxInt, api.ErrShort},
		{append(formOf(math.MaxInt), 0, 0), 0, math.MaxInt - 1, math.MaxInt, api.ErrLarge},
		{append([]byte{1}, formOf(math.MaxInt)...), 0, 1, math.MaxInt, api.ErrShort},
	} {
		if l, next, e := pack.GetTexts(c.b, c.at, c.count, c.most); len(l) != 0 || next != 0 || e != c.e {
			t.Errorf("GetTexts(%x, %d, %d, %d) = %q %d %d, not the error %d alone", c.b, c.at, c.count, c.most, l, next, e, c.e)
		}
	}
}

func TestGetTextsOfNoTextAsksNoLength(t *testing.T) {
	if l, next, e := pack.GetTexts([]byte{0, 7}, 0, 0, -1); len(l) != 0 || next != 1 || e != api.OK {
		t.Errorf("GetTexts of none = %q %d %d", l, next, e)
	}
}

// P1.4

// inRoom is bytes with others behind their length, and a test that all of them are as they were.
func inRoom(t *testing.T, inside ...byte) ([]byte, func()) {
	all := append(bytes.Clone(inside), 0x01, 'z', 0x00, 0xee, 0xee, 0xee, 0xee, 0xee)
	before := bytes.Clone(all)
	return all[:len(inside):len(all)], func() {
		t.Helper()
		if !bytes.Equal(all, before) {
			t.Errorf("%x became %x", before, all)
		}
	}
}

func TestWhatIsHandedInStays(t *testing.T) {
	b, check := inRoom(t, 2, 1, 'a', 0)
	pack.GetNum(b, 1)
	pack.GetText(b, 1, 1)
	pack.GetTexts(b, 0, 2, 1)
	check()
	one, checkOne := inRoom(t, 1, 2)
	two, checkTwo := inRoom(t, 3)
	pack.Join(one, two)
	pack.Join(one)
	checkOne()
	checkTwo()
	l := []string{"a", "b", "c"}
	pack.Texts(l[:2]...)
	if !slices.Equal(l, []string{"a", "b", "c"}) {
		t.Errorf("the list became %q", l)
	}
}

func TestWhatLiesBehindTheLengthIsNotRead(t *testing.T) {
	b, _ := inRoom(t, 0x80)
	if _, _, e := pack.GetNum(b, 0); e != api.ErrShort {
		t.Errorf("GetNum read on: %d", e)
	}
	b, _ = inRoom(t, 2, 'a')
	if s, _, e := pack.GetText(b, 0, 9); e != api.ErrShort {
		t.Errorf("GetText read on: %q %d", s, e)
	}
	b, _ = inRoom(t, 2, 1, 'a')
	if l, _, e := pack.GetTexts(b, 0, 9, 9); e != api.ErrShort {
		t.Errorf("GetTexts read on: %q %d", l, e)
	}
	if _, _, e := pack.GetNum(b, 4); e != api.ErrArg {
		t.Errorf("GetNum took a place behind the length: %d", e)
	}
}

func TestWhatIsAnsweredIsNew(t *testing.T) {
	b := []byte{2, 2, 'a', 'b', 1, 'c'}
	s, _, _ := pack.GetText(b, 1, 9)
	l, _, _ := pack.GetTexts(b, 0, 9, 9)
	k, _, _ := pack.GetTexts(b, 0, 9, 9)
	clear(b)
	if s != "ab" || !slices.Equal(l, []string{"ab", "c"}) {
		t.Errorf("what was read became %q %q", s, l)
	}
	clear(l)
	if !slices.Equal(k, []string{"ab", "c"}) {
		t.Errorf("another answer became %q", k)
	}
	part := []byte{1, 2}
	for _, joined := range [][]byte{pack.Join(part), pack.Join(nil, part), pack.Join(part, nil)} {
		clear(joined)
		_ = append(joined, 9)
	}
	if !bytes.Equal(part, []byte{1, 2}) {
		t.Errorf("Join's answer shares its part: %x", part)
	}
	kept := pack.Join(part)
	clear(part)
	if !bytes.Equal(kept, []byte{1, 2}) {
		t.Errorf("Join kept its part: %x", kept)
	}
}

func TestAnswersOfFormsShareNothing(t *testing.T) {
	l := []string{"ab", ""}
	for _, f := range []func() []byte{
		func() []byte { return pack.Num(0) },
		func() []byte { return pack.Num(300) },
		func() []byte { return pack.Text("") },
		func() []byte { return pack.Text("ab") },
		func() []byte { return pack.Texts() },
		func() []byte { return pack.Texts(l...) },
	} {
		first := f()
		want := bytes.Clone(first)
		for i := range first[:cap(first)] {
			first[:cap(first)][i] = 0xee
		}
		if got := f(); !bytes.Equal(got, want) {
			t.Errorf("%x became %x", want, got)
		}
	}
}

// P1, R1, R8

func TestEachCallEndsAtAnyArgument(t *testing.T) {
	counts := append(extremes(), 0, 1, 2, 3)
	for _, b := range words(4) {
		before := bytes.Clone(b)
		for _, at := range append(extremes(), 0, 1, len(b), len(b)+1) {
			n, next, e := pack.GetNum(b, at)
			checkPlace(t, "GetNum", b, at, next, e)
			if e == api.OK && n < 0 {
				t.Errorf("GetNum(%x, %d) = %d", b, at, n)
			}
			for _, most := range counts {
				_, next, e = pack.GetText(b, at, most)
				checkPlace(t, "GetText", b, at, next, e)
			}
		}
		for _, count := range counts {
			for _, most := range counts {
				l, next, e := pack.GetTexts(b, 0, count, most)
				again, nextAgain, eAgain := pack.GetTexts(b, 0, count, most)
				checkPlace(t, "GetTexts", b, 0, next, e)
				if !slices.Equal(l, again) || next != nextAgain || e != eAgain {
					t.Errorf("GetTexts(%x, 0, %d, %d) has two answers", b, count, most)
				}
				if e == api.OK && !bytes.Equal(pack.Texts(l...), b[:next]) {
					t.Errorf("GetTexts(%x, 0, %d, %d) = %q", b, count, most, l)
				}
			}
		}
		if !bytes.Equal(b, before) {
			t.Fatalf("%x became %x", before, b)
		}
	}
}

// checkPlace tells of a place behind what was read that isn't behind it, or stands beside an error.
func checkPlace(t *testing.T, call string, b []byte, at, next int, e api.Errno) {
	t.Helper()
	if e == api.OK && (next <= at || next > len(b)) || e != api.OK && next != 0 {
		t.Errorf("%s(%x, %d) goes on at %d, with the error %d", call, b, at, next, e)
	}
}
