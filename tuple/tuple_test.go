package tuple_test

import (
	"bytes"
	"cmp"
	"math"
	"slices"
	"strings"
	"testing"
	"unsafe"

	"shelfmark/api"
	"shelfmark/sample"
	"shelfmark/tuple"
)

var null, number, text = sample.Null, sample.Int, sample.Text

// ints are at the edges of the order, and of each byte of an Int's bytes, rising.
func ints() []int {
	l := []int{math.MinInt, math.MinInt + 1, -2, -1, 0, 1, 2, 127, 128, 255, 256, math.MaxInt - 1, math.MaxInt}
	for i := 8; i < 63; i += 8 {
		l = append(l, -1<<i-1, -1<<i, -1<<i+1, 1<<i-1, 1<<i, 1<<i+1)
	}
	slices.Sort(l)
	return slices.Compact(l)
}

// texts are of bytes that matter in a Text's bytes, and of lengths at the edges, rising.
func texts() []string {
	l := words(3, "\x00\x01\x02a\xff")
	for _, c := range []string{"\x00", "a", "\xff"} {
		for _, n := range []int{api.MaxText - 1, api.MaxText} {
			l = append(l, strings.Repeat(c, n))
		}
	}
	l = append(l, "abc", "ab\x00", "ä", "z", "\x7f", "\x80", "\x00\x00\x00\x00", "\x00\xff\x00\xff")
	slices.Sort(l)
	return slices.Compact(l)
}

// words are all texts of up to most bytes out of those given, the shorter ones first.
func words(most int, bytes string) []string {
	all := []string{""}
	for from := 0; most > 0; most-- {
		to := len(all)
		for _, w := range all[from:to] {
			for i := range len(bytes) {
				all = append(all, w+bytes[i:i+1])
			}
		}
		from = to
	}
	return all
}

// goodVals are good values, rising.
func goodVals() []api.Val {
	l := []api.Val{null()}
	for _, n := range ints() {
		l = append(l, number(n))
	}
	for _, s := range texts() {
		l = append(l, text(s))
	}
	return l
}

// fewVals are good values that stand close to each other, rising.
func fewVals() []api.Val {
	return []api.Val{null(), number(math.MinInt), number(-1), number(0), number(math.MaxInt), text(""), text("\x00"), text("\x00\xff"), text("\x01"), text("a"), text("a\x00"), text("a\x00b"), text("ab"), text("\xff")}
}

// badVals are values that may not be.
func badVals() []api.Val {
	l := []api.Val{
		{Kind: api.Null, N: 1},
		{Kind: api.Null, N: -1},
		{Kind: api.Null, N: math.MinInt},
		{Kind: api.Null, S: "a"},
		{Kind: api.Null, S: "\x00"},
		{Kind: api.Null, N: 1, S: "a"},
		{Kind: api.Int, S: "a"},
		{Kind: api.Int, N: 7, S: "\x00"},
		{Kind: api.Text, N: 1},
		{Kind: api.Text, N: -1, S: "a"},
		{Kind: api.Text, S: strings.Repeat("a", api.MaxText+1)},
		{Kind: api.Text, S: strings.Repeat("\x00", api.MaxText+1)},
		{Kind: api.Text, S: strings.Repeat("ä", api.MaxText/2+1)},
		{Kind: api.Text, S: strings.Repeat("a", 100000)},
	}
	for _, kind := range []int{-1, 3, 4, 255, 256, 257, 258, -255, -254, 1 << 32, 1<<32 + 1, 1<<32 + 2, math.MinInt, math.MaxInt} {
		l = append(l, api.Val{Kind: kind}, api.Val{Kind: kind, N: 1}, api.Val{Kind: kind, S: "a"})
	}
	return l
}

// manyRows are rows: each good value alone, and all of up to three of the few, and some of four.
func manyRows() [][]api.Val {
	l := [][]api.Val{nil}
	for _, v := range goodVals() {
		l = append(l, []api.Val{v})
	}
	few := fewVals()
	for _, v := range few {
		for _, w := range few {
			l = append(l, []api.Val{v, w}, []api.Val{v, v, w}, []api.Val{v, w, w}, []api.Val{v, w, v, w}, []api.Val{w, w, w, v})
		}
	}
	return l
}

// risingRows are rows in their order: all of up to two of some values, each behind its own beginning.
func risingRows() [][]api.Val {
	l := [][]api.Val{nil}
	for _, v := range goodVals() {
		l = append(l, []api.Val{v})
		for _, w := range fewVals() {
			l = append(l, []api.Val{v, w})
		}
	}
	return l
}

// cutOf is what Cut has to answer, by an automaton that goes byte by byte, and no further than the byte that decides.
func cutOf(s string) (l []api.Val, rest string, e api.Errno) {
	var inside []byte // of the value that is begun, its first byte ahead
	null := false     // whether a byte 00 of a Text is open
	for i := range len(s) {
		c := s[i]
		if len(inside) == 0 {
			if c == 0 {
				return l, s[i:], api.OK
			}
			if len(l) == api.MaxFields {
				return nil, "", api.ErrLarge
			}
			if c > 3 {
				return nil, "", api.ErrForm
			}
			if c == 1 {
				l = append(l, api.Val{})
				continue
			}
			inside = []byte{c}
			continue
		}
		if inside[0] == 2 {
			inside = append(inside, c)
			if len(inside) == 9 {
				n := int(int8(inside[1] ^ 0x80))
				for _, d := range inside[2:] {
					n = n*256 + int(d)
				}
				l, inside = append(l, number(n)), nil
			}
			continue
		}
		if !null {
			inside = append(inside, c)
			null = c == 0
			continue
		}
		null = false
		if c == 0 {
			if len(inside) > 2+api.MaxText {
				return nil, "", api.ErrLarge
			}
			l, inside = append(l, text(string(inside[1:len(inside)-1]))), nil
		} else if c != 0xff {
			return nil, "", api.ErrForm
		}
	}
	if len(inside) > 0 {
		return nil, "", api.ErrShort
	}
	return l, "", api.OK
}

func checkCut(t *testing.T, s string) {
	t.Helper()
	l, rest, e := tuple.Cut(s)
	wantL, wantRest, want := cutOf(s)
	if !slices.Equal(l, wantL) || rest != wantRest || e != want {
		t.Errorf("Cut(%x) = %#v %x %d, not %#v %x %d", s, l, rest, e, wantL, wantRest, want)
	}
	if want == api.OK && wantRest != "" {
		wantL, want = nil, api.ErrForm
	}
	if l, e = tuple.Vals(s); !slices.Equal(l, wantL) || e != want {
		t.Errorf("Vals(%x) = %#v %d, not %#v %d", s, l, e, wantL, want)
	}
}

// P3.1

func TestGoodValues(t *testing.T) {
	for _, v := range goodVals() {
		if !tuple.Good(v) {
			t.Errorf("%#v isn't good", v)
		}
	}
	for _, s := range []string{strings.Repeat("a", api.MaxText), strings.Repeat("\x00", api.MaxText), strings.Repeat("ä", api.MaxText/2)} {
		if !tuple.Good(text(s)) {
			t.Errorf("a Text of %d bytes isn't good", len(s))
		}
	}
	for _, v := range badVals() {
		if tuple.Good(v) {
			t.Errorf("%#v is good", v)
		}
	}
}

func TestCompareOfRisingValues(t *testing.T) {
	l := goodVals()
	for i, v := range l {
		for j, w := range l {
			if got := tuple.Compare([]api.Val{v}, []api.Val{w}); got != cmp.Compare(i, j) {
				t.Errorf("Compare(%#v, %#v) = %d, not %d", v, w, got, cmp.Compare(i, j))
			}
		}
	}
}

func TestCompareOfRisingRows(t *testing.T) {
	l := risingRows()
	for i, a := range l {
		for j, b := range l {
			if got := tuple.Compare(a, b); got != cmp.Compare(i, j) {
				t.Errorf("Compare(%#v, %#v) = %d, not %d", a, b, got, cmp.Compare(i, j))
			}
		}
	}
}

func TestCompareTheFirstUnlikeValuesDecide(t *testing.T) {
	for _, c := range []struct {
		a, b []api.Val
		want int
	}{
		{nil, nil, 0},
		{nil, []api.Val{}, 0},
		{nil, []api.Val{null()}, -1},
		{[]api.Val{null()}, nil, 1},
		{[]api.Val{number(1), text("z")}, []api.Val{number(2)}, -1},
		{[]api.Val{number(1), number(9), number(1)}, []api.Val{number(1), number(8), number(2)}, 1},
		{[]api.Val{text("a"), text("b")}, []api.Val{text("ab")}, -1},
		{[]api.Val{text("ab")}, []api.Val{text("a"), text("b")}, 1},
		{[]api.Val{null(), null(), null()}, []api.Val{null(), null(), null(), null()}, -1},
		{[]api.Val{null(), null(), null(), text("a")}, []api.Val{null(), null(), null(), number(5)}, 1},
		{[]api.Val{text("a"), number(1), null(), text("x")}, []api.Val{text("a"), number(1), null(), text("x")}, 0},
	} {
		if got := tuple.Compare(c.a, c.b); got != c.want {
			t.Errorf("Compare(%#v, %#v) = %d, not %d", c.a, c.b, got, c.want)
		}
	}
}

func TestCompareOfWhatIsNoRow(t *testing.T) {
	other := []api.Val{number(1), text("a")}
	no := [][]api.Val{
		slices.Repeat([]api.Val{null()}, api.MaxFields+1),
		slices.Repeat([]api.Val{text("z")}, 100),
	}
	for _, v := range badVals() {
		no = append(no, []api.Val{v}, []api.Val{null(), v}, []api.Val{text("z"), v}, []api.Val{number(1), number(2), number(3), v})
	}
	for _, l := range no {
		for _, row := range [][]api.Val{nil, {null()}, {text("\xff")}, other, l} {
			if got := tuple.Compare(l, row); got != 0 {
				t.Errorf("Compare(%#v, %#v) = %d", l, row, got)
			}
			if got := tuple.Compare(row, l); got != 0 {
				t.Errorf("Compare(%#v, %#v) = %d", row, l, got)
			}
		}
	}
}

// P3.2

func TestKeyIsTheBytesOfTheValues(t *testing.T) {
	for _, c := range []struct {
		l    []api.Val
		want string
	}{
		{nil, ""},
		{[]api.Val{}, ""},
		{[]api.Val{null()}, "\x01"},
		{[]api.Val{number(0)}, "\x02\x80\x00\x00\x00\x00\x00\x00\x00"},
		{[]api.Val{number(-1)}, "\x02\x7f\xff\xff\xff\xff\xff\xff\xff"},
		{[]api.Val{number(0x0102030405060708)}, "\x02\x81\x02\x03\x04\x05\x06\x07\x08"},
		{[]api.Val{number(math.MinInt)}, "\x02\x00\x00\x00\x00\x00\x00\x00\x00"},
		{[]api.Val{number(math.MaxInt)}, "\x02\xff\xff\xff\xff\xff\xff\xff\xff"},
		{[]api.Val{text("")}, "\x03\x00\x00"},
		{[]api.Val{text("ab")}, "\x03ab\x00\x00"},
		{[]api.Val{text("\x00")}, "\x03\x00\xff\x00\x00"},
		{[]api.Val{text("\x00\xff\x00\x00")}, "\x03\x00\xff\xff\x00\xff\x00\xff\x00\x00"},
		{[]api.Val{text("\xff\x80ä")}, "\x03\xff\x80\xc3\xa4\x00\x00"},
		{[]api.Val{text(strings.Repeat("\x00", api.MaxText))}, "\x03" + strings.Repeat("\x00\xff", api.MaxText) + "\x00\x00"},
		{[]api.Val{number(1), text("a")}, "\x02\x80\x00\x00\x00\x00\x00\x00\x01\x03a\x00\x00"},
		{[]api.Val{null(), text(""), null(), text("")}, "\x01\x03\x00\x00\x01\x03\x00\x00"},
	} {
		if got, e := tuple.Key(c.l); got != c.want || e != api.OK {
			t.Errorf("Key(%#v) = %x %d, not %x", c.l, got, e, c.want)
		}
	}
	for _, l := range manyRows() {
		if got, e := tuple.Key(l); got != sample.RowKey(l) || e != api.OK {
			t.Errorf("Key(%#v) = %x %d, not %x", l, got, e, sample.RowKey(l))
		}
	}
}

func TestKeyErrors(t *testing.T) {
	bad := badVals()[0]
	large := [][]api.Val{
		slices.Repeat([]api.Val{null()}, api.MaxFields+1),
		slices.Repeat([]api.Val{bad}, api.MaxFields+1),
		{null(), null(), null(), null(), bad},
		slices.Repeat([]api.Val{text("a")}, 1000),
	}
	for _, l := range large {
		if s, e := tuple.Key(l); s != "" || e != api.ErrLarge {
			t.Errorf("Key of %d values = %x %d", len(l), s, e)
		}
	}
	for _, v := range badVals() {
		for _, l := range [][]api.Val{{v}, {v, null()}, {number(1), v}, {text("a"), null(), number(3), v}, {v, v, v, v}} {
			if s, e := tuple.Key(l); s != "" || e != api.ErrArg {
				t.Errorf("Key(%#v) = %x %d", l, s, e)
			}
		}
	}
}

// P3.3

func TestCutReadsWhatKeyWrites(t *testing.T) {
	for _, want := range manyRows() {
		form := sample.RowKey(want)
		for _, behind := range []string{"", "\x00", "\x00\x00", "\x00x", "\x00\xff\x01", "\x00\x04"} {
			l, rest, e := tuple.Cut(form + behind)
			if !slices.Equal(l, want) || rest != behind || e != api.OK {
				t.Errorf("Cut(%x) = %#v %x %d", form+behind, l, rest, e)
			}
		}
	}
}

func TestCutErrors(t *testing.T) {
	four := "\x01\x01\x03\x00\x00\x01"
	long := strings.Repeat("a", api.MaxText)
	for _, c := range []struct {
		s string
		e api.Errno
	}{
		{"\x04", api.ErrForm},
		{"\x04\x00\x00", api.ErrForm},
		{"\x80", api.ErrForm},
		{"\xff", api.ErrForm},
		{"\x01\x01\x01\x04", api.ErrForm},
		{four + "\x01", api.ErrLarge},
		{four + "\x02", api.ErrLarge},
		{four + "\x03", api.ErrLarge},
		{four + "\x03\x00\x01", api.ErrLarge},
		{four + "\x04", api.ErrLarge},
		{four + "\xff", api.ErrLarge},
		{"\x02", api.ErrShort},
		{"\x02\x80", api.ErrShort},
		{"\x02\x80\x00\x00\x00\x00\x00\x00", api.ErrShort},
		{"\x01\x02\x00\x00\x00\x00\x00\x00\x00", api.ErrShort},
		{"\x03", api.ErrShort},
		{"\x03a", api.ErrShort},
		{"\x03\xff", api.ErrShort},
		{"\x03\x00", api.ErrShort},
		{"\x03a\x00", api.ErrShort},
		{"\x03\x00\xff", api.ErrShort},
		{"\x03\x00\xff\x00", api.ErrShort},
		{"\x03\x00\x01", api.ErrForm},
		{"\x03\x00\xfe\x00\x00", api.ErrForm},
		{"\x03a\x00a\x00\x00", api.ErrForm},
		{"\x03\x00\xff\x00\x02", api.ErrForm},
		{"\x03\x00\x04\x04", api.ErrForm},
		{"\x03" + long + "a\x00\x00", api.ErrLarge},
		{"\x03" + long + "\x00\xff\x00\x00", api.ErrLarge},
		{"\x03" + strings.Repeat("\x00\xff", api.MaxText+1) + "\x00\x00", api.ErrLarge},
		{"\x03" + long + long + "\x00\x00\x04", api.ErrLarge},
		{"\x03" + long + "a", api.ErrShort},
		{"\x03" + long + "a\x00", api.ErrShort},
		{"\x03" + long + "a\x00\x01", api.ErrForm},
		{"\x03" + long + long + "\x00\xff\x00\x7f\x00\x00", api.ErrForm},
		{"\x03" + strings.Repeat("a", 1<<20), api.ErrShort},
		{"\x03" + strings.Repeat("a", 1<<20) + "\x00\x00", api.ErrLarge},
		{four[1:] + "\x03" + long + "a\x00\x00\x01", api.ErrLarge},
		{four[1:] + "\x02\x01", api.ErrShort},
	} {
		if l, rest, e := tuple.Cut(c.s); len(l) != 0 || rest != "" || e != c.e {
			t.Errorf("Cut(%x) = %#v %x %d, not the error %d alone", c.s, l, rest, e, c.e)
		}
		if l, e := tuple.Vals(c.s); len(l) != 0 || e != c.e {
			t.Errorf("Vals(%x) = %#v %d, not the error %d alone", c.s, l, e, c.e)
		}
	}
}

func TestCutAtTheEdges(t *testing.T) {
	four := "\x01\x01\x03\x00\x00\x01"
	for _, c := range []struct {
		s, rest string
		n       int
	}{
		{"", "", 0},
		{"\x00", "\x00", 0},
		{"\x00\x04\xff", "\x00\x04\xff", 0},
		{"\x01\x00\x78", "\x00\x78", 1},
		{four, "", 4},
		{four + "\x00", "\x00", 4},
		{four + "\x00\x01\x04", "\x00\x01\x04", 4},
		{"\x03\x00\x00\x00", "\x00", 1},
		{"\x03\x00\x00\x00\x00", "\x00\x00", 1},
		{"\x02\x00\x00\x00\x00\x00\x00\x00\x00\x00", "\x00", 1},
		{"\x03" + strings.Repeat("a", api.MaxText) + "\x00\x00", "", 1},
		{"\x03" + strings.Repeat("\x00\xff", api.MaxText) + "\x00\x00", "", 1},
		{"\x03" + strings.Repeat("\xff", api.MaxText) + "\x00\x00\x00", "\x00", 1},
		{"\x00" + strings.Repeat("x", 1<<20), "\x00" + strings.Repeat("x", 1<<20), 0},
	} {
		if l, rest, e := tuple.Cut(c.s); len(l) != c.n || rest != c.rest || e != api.OK {
			t.Errorf("Cut(%x) = %#v %x %d", c.s, l, rest, e)
		}
		want := api.OK
		if c.rest != "" {
			want, c.n = api.ErrForm, 0
		}
		if l, e := tuple.Vals(c.s); len(l) != c.n || e != want {
			t.Errorf("Vals(%x) = %#v %d", c.s, l, e)
		}
	}
}

func TestCutOfAllShortTexts(t *testing.T) {
	for _, s := range words(6, "\x00\x01\x02\x03\x04a\xff") {
		checkCut(t, s)
	}
	for _, a := range words(2, "\x00\x02\x03\xff") {
		for _, b := range words(4, "\x00\x01\x03\xff") {
			checkCut(t, "\x02"+a+"\x80\x00\x03\x00\x04\xff"+b)
			checkCut(t, "\x03"+a+strings.Repeat("a", api.MaxText-2)+b)
		}
	}
}

func TestCutOfSpoiltKeys(t *testing.T) {
	for _, l := range [][]api.Val{
		{number(-5), text("a\x00b"), null(), number(math.MaxInt)},
		{text("\x00"), text(""), text("\xff\x00"), text(strings.Repeat("x", api.MaxText))},
		{null(), number(0)},
	} {
		key := sample.RowKey(l)
		for i := range len(key) {
			checkCut(t, key[:i])
			checkCut(t, key[i:])
			for _, c := range "\x00\x01\x02\x03\x04\xfe" {
				checkCut(t, key[:i]+string([]byte{byte(c)})+key[i:])
				checkCut(t, key[:i]+string([]byte{byte(c)})+key[i+1:])
			}
			checkCut(t, key[:i]+"\xff"+key[i:])
			checkCut(t, key[:i]+"\xff"+key[i+1:])
		}
	}
}

// P3.4

func TestKeysStandAsTheRowsDo(t *testing.T) {
	l := risingRows()
	keys := make([]string, len(l))
	for i, row := range l {
		keys[i], _ = tuple.Key(row)
	}
	for i := range l {
		for j := range l {
			if got := strings.Compare(keys[i], keys[j]); got != cmp.Compare(i, j) {
				t.Errorf("the keys of %#v and %#v stand %d", l[i], l[j], got)
			}
		}
	}
	many := manyRows()
	for i, a := range many {
		key, _ := tuple.Key(a)
		for _, b := range many[i%7*len(many)/7:] {
			other, _ := tuple.Key(b)
			if tuple.Compare(a, b) != strings.Compare(key, other) {
				t.Errorf("%#v and %#v stand %d, their keys %d", a, b, tuple.Compare(a, b), strings.Compare(key, other))
			}
		}
	}
}

func TestValsOfKeyIsTheRow(t *testing.T) {
	for _, want := range manyRows() {
		key, e := tuple.Key(want)
		if e != api.OK {
			t.Errorf("Key(%#v) has the error %d", want, e)
		}
		if got, e := tuple.Vals(key); !slices.Equal(got, want) || e != api.OK {
			t.Errorf("Vals(%x) = %#v %d, not %#v", key, got, e, want)
		}
	}
}

func TestKeyOfValsIsTheText(t *testing.T) {
	read := 0
	for _, s := range words(6, "\x00\x01\x02\x03\x04a\xff") {
		l, e := tuple.Vals(s)
		if e != api.OK {
			continue
		}
		read++
		if got, e := tuple.Key(l); got != s || e != api.OK {
			t.Errorf("Key of Vals(%x) = %x %d", s, got, e)
		}
	}
	if read < 20 {
		t.Errorf("of all short texts only %d are keys", read)
	}
}

// P3.5

func TestNext(t *testing.T) {
	for _, c := range []struct{ s, want string }{
		{"", ""},
		{"a", "b"},
		{"\x00", "\x01"},
		{"\x7f", "\x80"},
		{"\xfe", "\xff"},
		{"\xff", ""},
		{"\xff\xff\xff", ""},
		{"a\xff", "b"},
		{"a\xff\xff", "b"},
		{"a\xfe\xff", "a\xff"},
		{"\xfe\xff\xff", "\xff"},
		{"\xff\xfe", "\xff\xff"},
		{"\xffa\xff", "\xffb"},
		{"a\x80\xff", "a\x81"},
		{"ab", "ac"},
		{"a\x00", "a\x01"},
		{"\xc3\xa4", "\xc3\xa5"},
		{strings.Repeat("x", 1000) + strings.Repeat("\xff", 1000), strings.Repeat("x", 999) + "y"},
		{strings.Repeat("\xff", 1000), ""},
	} {
		if got := tuple.Next(c.s); got != c.want {
			t.Errorf("Next(%x) = %x, not %x", c.s, got, c.want)
		}
	}
}

func TestNextOfEachByte(t *testing.T) {
	for c := range 255 {
		for _, behind := range []string{"", "\xff", "\xff\xff"} {
			s := "k" + string([]byte{byte(c)}) + behind
			if got, want := tuple.Next(s), "k"+string([]byte{byte(c + 1)}); got != want {
				t.Errorf("Next(%x) = %x, not %x", s, got, want)
			}
		}
	}
}

func TestNextIsTheLeastTextBehind(t *testing.T) {
	all := words(5, "\x00\x01\xfe\xff")
	for _, s := range words(3, "\x00\x01\xfe\xff") {
		next := tuple.Next(s)
		for _, w := range all {
			// Behind all that begin with s: behind s with as many bytes ff as w could have.
			behind := w > s+strings.Repeat("\xff", len(w))
			if (next != "" && w >= next) != behind {
				t.Errorf("Next(%x) = %x, %x stands behind all that begin so: %t", s, next, w, behind)
			}
		}
	}
}

// P3.6, R4

// inRoom is a row with a value behind its length, and a test that all of them are as they were.
func inRoom(t *testing.T, inside ...api.Val) ([]api.Val, func()) {
	all := append(slices.Clone(inside), text("z"), api.Val{Kind: 9}, number(7), number(8), number(9))
	before := slices.Clone(all)
	return all[:len(inside):len(all)], func() {
		t.Helper()
		if !slices.Equal(all, before) {
			t.Errorf("%#v became %#v", before, all)
		}
	}
}

func TestWhatIsHandedInStays(t *testing.T) {
	for _, row := range [][]api.Val{nil, {null()}, {number(1), text("a\x00")}, {null(), null(), null(), null()}, {{Kind: 5}}} {
		l, check := inRoom(t, row...)
		tuple.Key(l)
		tuple.Compare(l, []api.Val{number(1)})
		tuple.Compare(nil, l)
		tuple.Compare(l, l)
		check()
	}
	b := []byte("\x01\x03a\x00\xff\x00\x00\x00k\xff")
	s := unsafe.String(&b[0], len(b))
	tuple.Cut(s)
	tuple.Vals(s)
	tuple.Vals(s[:7])
	tuple.Next(s)
	if string(b) != "\x01\x03a\x00\xff\x00\x00\x00k\xff" {
		t.Errorf("the text became %x", b)
	}
}

func TestWhatLiesBehindTheLengthIsNotRead(t *testing.T) {
	one, _ := inRoom(t, number(1))
	if s, e := tuple.Key(one); s != sample.RowKey([]api.Val{number(1)}) || e != api.OK {
		t.Errorf("Key read on: %x %d", s, e)
	}
	if got := tuple.Compare(one, []api.Val{number(1), null()}); got != -1 {
		t.Errorf("Compare read on: %d", got)
	}
	if got := tuple.Compare([]api.Val{number(1)}, one); got != 0 {
		t.Errorf("Compare read on: %d", got)
	}
}

// share tells whether two texts have a byte of memory in common.
func share(a, b string) bool {
	if a == "" || b == "" {
		return false
	}
	fromA, fromB := uintptr(unsafe.Pointer(unsafe.StringData(a))), uintptr(unsafe.Pointer(unsafe.StringData(b)))
	return fromA < fromB+uintptr(len(b)) && fromB < fromA+uintptr(len(a))
}

func TestWhatIsAnsweredIsNew(t *testing.T) {
	b := []byte("\x03ab\x00\x00\x01\x03c\x00\xff\x00\x00\x00rest")
	s := unsafe.String(&b[0], len(b))
	want := []api.Val{text("ab"), null(), text("c\x00")}
	l, rest, _ := tuple.Cut(s)
	k, e := tuple.Vals(s[:len(s)-5])
	next := tuple.Next(s)
	if share(rest, s) || share(next, s) || share(l[0].S, s) || share(l[2].S, s) || share(k[0].S, s) || share(k[2].S, s) {
		t.Error("an answer lies in the text that was handed in")
	}
	clear(b)
	if !slices.Equal(l, want) || rest != "\x00rest" || next != "\x03ab\x00\x00\x01\x03c\x00\xff\x00\x00\x00resu" {
		t.Errorf("what Cut and Next answered became %#v %x %x", l, rest, next)
	}
	if !slices.Equal(k, want) || e != api.OK {
		t.Errorf("what Vals answered became %#v %d", k, e)
	}
}

func TestAnswersShareNothing(t *testing.T) {
	for _, row := range [][]api.Val{nil, {null()}, {number(1), text("a")}, {null(), number(2), text("b\x00"), null()}} {
		s := sample.RowKey(row)
		one, _, _ := tuple.Cut(s)
		two, _, _ := tuple.Cut(s)
		three, _ := tuple.Vals(s)
		for _, l := range [][]api.Val{one, three} {
			l = l[:cap(l)]
			for i := range l {
				l[i] = text("other")
			}
		}
		four, _ := tuple.Vals(s)
		if !slices.Equal(two, row) || !slices.Equal(four, row) {
			t.Errorf("other answers became %#v and %#v, not %#v", two, four, row)
		}
	}
}

func TestKeyKeepsNoMemoryOfItsRow(t *testing.T) {
	b := []byte("text")
	l := []api.Val{number(1), text(unsafe.String(&b[0], len(b)))}
	want := sample.RowKey(l)
	key, _ := tuple.Key(l)
	if share(key, l[1].S) {
		t.Error("the key lies in the row's text")
	}
	clear(b)
	clear(l)
	if key != want {
		t.Errorf("the key became %x, not %x", key, want)
	}
}

// P1, R1, R3, R8

func TestEachCallEndsAtAnyArgument(t *testing.T) {
	all := append(badVals(), fewVals()...)
	for i, v := range all {
		if tuple.Good(v) != tuple.Good(v) {
			t.Errorf("Good(%#v) has two answers", v)
		}
		for n := range 7 {
			a := slices.Repeat([]api.Val{v}, n)
			for _, w := range all[i:] {
				b := append(slices.Clone(a), w)
				if there, back := tuple.Compare(a, b), tuple.Compare(b, a); there != -back || there != tuple.Compare(a, b) {
					t.Errorf("Compare(%#v, %#v) = %d, the other way %d", a, b, there, back)
				}
				s, e := tuple.Key(b)
				again, eAgain := tuple.Key(b)
				if s != again || e != eAgain || e != api.OK && s != "" {
					t.Errorf("Key(%#v) = %x %d, then %x %d", b, s, e, again, eAgain)
				}
			}
		}
	}
	for _, n := range []int{0, 1, 2, 9, 100, 1 << 20} {
		for _, c := range []byte{0, 1, 2, 3, 4, 0xfe, 0xff} {
			s := string(bytes.Repeat([]byte{c}, n))
			checkCut(t, s)
			checkCut(t, "\x03"+s)
			if next := tuple.Next(s); next != tuple.Next(s) || next != "" && next <= s {
				t.Errorf("Next of %d bytes %x is none", n, c)
			}
		}
	}
}

func TestNilAndEmptyAreTheSame(t *testing.T) {
	one, eOne := tuple.Key(nil)
	two, eTwo := tuple.Key([]api.Val{})
	if one != "" || two != "" || eOne != api.OK || eTwo != api.OK {
		t.Errorf("Key of no values = %x %d and %x %d", one, eOne, two, eTwo)
	}
	if l, e := tuple.Vals(""); len(l) != 0 || e != api.OK {
		t.Errorf("Vals of nothing = %#v %d", l, e)
	}
	if tuple.Compare(nil, []api.Val{}) != 0 || tuple.Compare([]api.Val{}, []api.Val{null()}) != -1 {
		t.Error("Compare takes an empty row for another than nil")
	}
}

// The chapter's examples.

func TestExamples(t *testing.T) {
	row := []api.Val{number(1), text("a")}
	if s, e := tuple.Key(row); s != "\x02\x80\x00\x00\x00\x00\x00\x00\x01\x03\x61\x00\x00" || e != api.OK {
		t.Errorf("Key(%#v) = %x %d", row, s, e)
	}
	if l, rest, e := tuple.Cut("\x01\x00\x78"); !slices.Equal(l, []api.Val{null()}) || rest != "\x00\x78" || e != api.OK {
		t.Errorf("Cut(01 00 78) = %#v %x %d", l, rest, e)
	}
	for _, c := range []struct {
		s string
		e api.Errno
	}{{"\x01\x00\x78", api.ErrForm}, {"\x04", api.ErrForm}, {"\x02\x80", api.ErrShort}} {
		if l, e := tuple.Vals(c.s); len(l) != 0 || e != c.e {
			t.Errorf("Vals(%x) = %#v %d", c.s, l, e)
		}
	}
	if tuple.Next("a\xff") != "b" || tuple.Next("\xff") != "" {
		t.Errorf("Next = %x %x", tuple.Next("a\xff"), tuple.Next("\xff"))
	}
}
