package record_test

import (
	"math"
	"slices"
	"strings"
	"testing"
	"unsafe"

	"shelfmark/api"
	"shelfmark/record"
	"shelfmark/sample"
)

var null, number, text = sample.Null, sample.Int, sample.Text

// shown are rows that an index of one field or two can be shown, rising.
func shown() [][]api.Val {
	var l [][]api.Val
	all := sample.Vals()[1:]
	for _, v := range all {
		l = append(l, []api.Val{v})
		for _, w := range all {
			l = append(l, []api.Val{v, w})
		}
	}
	return l
}

// P4.1

func TestKey(t *testing.T) {
	for _, s := range sample.Keys() {
		if !record.Key(s) {
			t.Errorf("%q is no key", s)
		}
	}
	for n := range api.MaxKey {
		for _, c := range []string{"k", "\x00", "\xff"} {
			if s := strings.Repeat(c, n+1); !record.Key(s) {
				t.Errorf("%q is no key", s)
			}
		}
	}
	for _, s := range sample.BadKeys() {
		if record.Key(s) {
			t.Errorf("a text of %d bytes is a key", len(s))
		}
	}
}

func TestCheck(t *testing.T) {
	for _, r := range sample.Records() {
		if e := record.Check(r); e != api.OK {
			t.Errorf("Check(%#v) = %d", r, e)
		}
	}
	for _, r := range []api.Record{nil, {}} {
		if e := record.Check(r); e != api.ErrArg {
			t.Errorf("Check(%#v) = %d", r, e)
		}
	}
	for _, r := range sample.LargeRecords() {
		if e := record.Check(r); e != api.ErrLarge {
			t.Errorf("Check of %d fields = %d", len(r), e)
		}
	}
	for _, r := range sample.BadRecords() {
		if e := record.Check(r); e != api.ErrArg {
			t.Errorf("Check(%#v) = %d", r, e)
		}
	}
}

// P4.2

func TestPackIsTheKeyOfTheFields(t *testing.T) {
	for _, c := range []struct {
		r    api.Record
		want string
	}{
		{api.Record{null()}, "\x01"},
		{api.Record{number(1), text("a")}, "\x02\x80\x00\x00\x00\x00\x00\x00\x01\x03a\x00\x00"},
		{api.Record{text("\x00"), null(), null(), text("")}, "\x03\x00\xff\x00\x00\x01\x01\x03\x00\x00"},
	} {
		if s, e := record.Pack(c.r); s != c.want || e != api.OK {
			t.Errorf("Pack(%#v) = %x %d, not %x", c.r, s, e, c.want)
		}
	}
	for _, r := range sample.Records() {
		if s, e := record.Pack(r); s != sample.RowKey(r) || e != api.OK {
			t.Errorf("Pack(%#v) = %x %d, not %x", r, s, e, sample.RowKey(r))
		}
	}
}

func TestPackErrors(t *testing.T) {
	check := func(want api.Errno, l ...api.Record) {
		t.Helper()
		for _, r := range l {
			if s, e := record.Pack(r); s != "" || e != want {
				t.Errorf("Pack of %d fields = %x %d, not the error %d alone", len(r), s, e, want)
			}
		}
	}
	check(api.ErrArg, nil, api.Record{})
	check(api.ErrLarge, sample.LargeRecords()...)
	check(api.ErrArg, sample.BadRecords()...)
}

func TestUnpackReadsWhatPackWrites(t *testing.T) {
	for _, want := range sample.Records() {
		if r, e := record.Unpack(sample.RowKey(want)); !slices.Equal(r, want) || e != api.OK {
			t.Errorf("Unpack(%x) = %#v %d, not %#v", sample.RowKey(want), r, e, want)
		}
	}
}

func TestUnpackErrors(t *testing.T) {
	for _, c := range []struct {
		s string
		e api.Errno
	}{
		{"", api.ErrForm},
		{"\x00", api.ErrForm},
		{"\x00\x01", api.ErrForm},
		{"\x01\x00", api.ErrForm},
		{"\x01\x00k", api.ErrForm},
		{"\x04", api.ErrForm},
		{"\x01\x01\x01\x01\x00", api.ErrForm},
		{"\x01\x01\x01\x01\x01", api.ErrLarge},
		{"\x01\x01\x01\x01\x01\x00", api.ErrLarge},
		{"\x01\x01\x01\x01\xff", api.ErrLarge},
		{"\x02\x80", api.ErrShort},
		{"\x03", api.ErrShort},
		{"\x01\x03a\x00", api.ErrShort},
		{"\x03a\x00\x01", api.ErrForm},
		{"\x03" + strings.Repeat("a", api.MaxText+1) + "\x00\x00", api.ErrLarge},
		{"\x03" + strings.Repeat("a", 1<<20), api.ErrShort},
	} {
		if r, e := record.Unpack(c.s); len(r) != 0 || e != c.e {
			t.Errorf("Unpack(%x) = %#v %d, not the error %d alone", c.s, r, e, c.e)
		}
	}
}

// P4.3

func TestCheckIndexOfRightOnes(t *testing.T) {
	for id := range api.MaxIndexes {
		for _, l := range sample.FieldLists() {
			if e := record.CheckIndex(api.Index{Id: id + 1, Fields: l}); e != api.OK {
				t.Errorf("CheckIndex of %d, %v = %d", id+1, l, e)
			}
		}
	}
}

func TestCheckIndexErrors(t *testing.T) {
	numbers := []int{math.MinInt, -1, 0, 1, 2, 3, api.MaxFields, 64, 256, 1 << 32, math.MaxInt}
	right := 0
	for _, l := range sample.Lists(3, numbers...) {
		want := api.OK
		outside := slices.ContainsFunc(l, func(n int) bool { return n < 0 || n > 3 })
		switch {
		case len(l) == 0:
			want = api.ErrArg
		case len(l) > api.MaxIndexed:
			want = api.ErrLarge
		case outside, len(l) == 2 && l[0] == l[1]:
			want = api.ErrArg
		default:
			right++
		}
		for _, id := range []int{1, api.MaxIndexes} {
			if e := record.CheckIndex(api.Index{Id: id, Fields: l}); e != want {
				t.Errorf("CheckIndex of %d, %v = %d, not %d", id, l, e, want)
			}
		}
		for _, id := range sample.BadIds() {
			if e := record.CheckIndex(api.Index{Id: id, Fields: l}); e != api.ErrArg {
				t.Errorf("CheckIndex of %d, %v = %d", id, l, e)
			}
		}
	}
	if right != len(sample.FieldLists()) {
		t.Errorf("%d lists are right", right)
	}
	for _, l := range [][]int{make([]int, 1<<20), {0, 1, 2, 3, 0, 1}, {9, 9, 9}} {
		if e := record.CheckIndex(api.Index{Id: 1, Fields: l}); e != api.ErrLarge {
			t.Errorf("CheckIndex of %d fields = %d", len(l), e)
		}
	}
}

func TestShows(t *testing.T) {
	a, b, c, d := number(5), text("a"), number(-1), text("")
	for _, x := range []struct {
		fields []int
		r      api.Record
		want   []api.Val
	}{
		{[]int{0}, api.Record{a}, []api.Val{a}},
		{[]int{1}, api.Record{a}, nil},
		{[]int{3}, api.Record{a, b, c}, nil},
		{[]int{3}, api.Record{a, b, c, d}, []api.Val{d}},
		{[]int{0, 1}, api.Record{a, b}, []api.Val{a, b}},
		{[]int{1, 0}, api.Record{a, b}, []api.Val{b, a}},
		{[]int{1, 0}, api.Record{a}, nil},
		{[]int{0, 1}, api.Record{a}, nil},
		{[]int{1, 0}, api.Record{a, null()}, nil},
		{[]int{1, 0}, api.Record{null(), a}, nil},
		{[]int{1, 2}, api.Record{null(), a, a, null()}, []api.Val{a, a}},
		{[]int{3, 1}, api.Record{a, b, c, d}, []api.Val{d, b}},
		{[]int{3, 1}, api.Record{null(), b, null(), d}, []api.Val{d, b}},
		{[]int{0}, api.Record{null()}, nil},
		{[]int{0}, api.Record{null(), a}, nil},
	} {
		for id := range api.MaxIndexes {
			l, ok := record.Shows(api.Index{Id: id + 1, Fields: x.fields}, x.r)
			if !slices.Equal(l, x.want) || ok != (x.want != nil) {
				t.Errorf("%#v shows %v %#v %t, not %#v", x.r, x.fields, l, ok, x.want)
			}
		}
	}
}

func TestShowsOfAllIndexes(t *testing.T) {
	for _, r := range sample.Records() {
		for _, fields := range sample.FieldLists() {
			want, wantOk := []api.Val(nil), true
			for _, n := range fields {
				if n >= len(r) || r[n] == null() {
					want, wantOk = nil, false
					break
				}
				want = append(want, r[n])
			}
			if l, ok := record.Shows(api.Index{Id: 2, Fields: fields}, r); !slices.Equal(l, want) || ok != wantOk {
				t.Errorf("%#v shows %v %#v %t, not %#v", r, fields, l, ok, want)
			}
		}
	}
}

func TestShowsNothing(t *testing.T) {
	check := func(x api.Index, r api.Record) {
		t.Helper()
		if l, ok := record.Shows(x, r); len(l) != 0 || ok {
			t.Errorf("%#v shows %#v %#v %t", r, x, l, ok)
		}
	}
	right := api.Record{number(1), number(2), number(3), number(4)}
	for _, id := range sample.BadIds() {
		check(api.Index{Id: id, Fields: []int{0}}, right)
	}
	for _, l := range [][]int{nil, {}, {0, 0}, {-1}, {0, -1}, {api.MaxFields}, {0, math.MaxInt}, {math.MinInt, 1}, {0, 1, 2}, make([]int, 1000)} {
		check(api.Index{Id: 1, Fields: l}, right)
		check(api.Index{Id: 1, Fields: l}, nil)
	}
	for _, r := range slices.Concat([]api.Record{nil, {}}, sample.LargeRecords()) {
		check(api.Index{Id: 1, Fields: []int{0}}, r)
	}
	// Also if the field at fault isn't of the index.
	for _, v := range sample.BadVals() {
		check(api.Index{Id: 1, Fields: []int{0}}, api.Record{v})
		check(api.Index{Id: 1, Fields: []int{0, 2}}, api.Record{number(1), v, number(3)})
		check(api.Index{Id: 1, Fields: []int{0}}, api.Record{number(1), number(2), number(3), v})
	}
}

// P4.4

func TestEntry(t *testing.T) {
	if s, e := record.Entry(6, []api.Val{number(-1), text("\x00")}, "\x00k"); s != "\x00\x06\x02\x7f\xff\xff\xff\xff\xff\xff\xff\x03\x00\xff\x00\x00\x00\x00k" || e != api.OK {
		t.Errorf("Entry = %x %d", s, e)
	}
	for id := 1; id <= api.MaxIndexes; id++ {
		for _, l := range shown() {
			for _, key := range sample.Keys() {
				if s, e := record.Entry(id, l, key); s != sample.Entry(id, l, key) || e != api.OK {
					t.Errorf("Entry(%d, %#v, %q) = %x %d", id, l, key, s, e)
				}
			}
		}
	}
}

func TestEntryErrors(t *testing.T) {
	check := func(id int, l []api.Val, key string, want api.Errno) {
		t.Helper()
		if s, e := record.Entry(id, l, key); s != "" || e != want {
			t.Errorf("Entry(%d, %#v, %q) = %x %d, not the error %d alone", id, l, key, s, e, want)
		}
	}
	one := []api.Val{number(1)}
	bad := sample.BadVals()[0]
	large := [][]api.Val{
		{number(1), number(2), number(3)},
		{null(), null(), null()},
		{bad, bad, bad},
		{text("a"), text("b"), text("c"), text("d")},
		{text("a"), text("b"), text("c"), text("d"), null()},
		slices.Repeat(one, 100000),
	}
	for _, key := range []string{"k", "", strings.Repeat("k", api.MaxKey+1)} {
		for _, id := range sample.BadIds() {
			check(id, one, key, api.ErrArg)
			check(id, nil, key, api.ErrArg)
			for _, l := range large[:4] {
				check(id, l, key, api.ErrArg)
			}
		}
		for _, id := range []int{1, api.MaxIndexes} {
			check(id, nil, key, api.ErrArg)
			check(id, []api.Val{}, key, api.ErrArg)
			for _, l := range large[:5] {
				check(id, l, key, api.ErrLarge)
			}
			for _, v := range append(sample.BadVals(), null()) {
				check(id, []api.Val{v}, key, api.ErrArg)
				check(id, []api.Val{v, number(1)}, key, api.ErrArg)
				check(id, []api.Val{number(1), v}, key, api.ErrArg)
				check(id, []api.Val{v, v}, key, api.ErrArg)
			}
		}
	}
	if s, e := record.Entry(1, large[5], "k"); s != "" || e != api.ErrLarge {
		t.Errorf("Entry of %d values = %x %d", len(large[5]), s, e)
	}
	for _, key := range sample.BadKeys() {
		check(1, one, key, api.ErrArg)
		check(api.MaxIndexes, []api.Val{text("a"), text("b")}, key, api.ErrArg)
	}
}

func TestParseReadsWhatEntryWrites(t *testing.T) {
	for id := 1; id <= api.MaxIndexes; id++ {
		for _, want := range shown() {
			for _, wantKey := range sample.Keys() {
				s := sample.Entry(id, want, wantKey)
				if got, l, key, e := record.Parse(s); got != id || !slices.Equal(l, want) || key != wantKey || e != api.OK {
					t.Errorf("Parse(%x) = %d %#v %q %d", s, got, l, key, e)
				}
			}
		}
	}
}

func TestParseErrors(t *testing.T) {
	long := strings.Repeat("a", api.MaxText+1)
	for _, c := range []struct {
		s string
		e api.Errno
	}{
		{"", api.ErrShort},
		{"\x00", api.ErrShort},
		{"\x01", api.ErrShort},
		{"\xff", api.ErrShort},
		{"\x00\x00", api.ErrForm},
		{"\x00\x07", api.ErrForm},
		{"\x00\xff", api.ErrForm},
		{"\x01\x00", api.ErrForm},
		{"\x01\x01", api.ErrForm},
		{"\x01\x01\x03a\x00\x00\x00k", api.ErrForm},
		{"\x80\x01\x03a\x00\x00\x00k", api.ErrForm},
		{"\xff\xff", api.ErrForm},
		{"\x00\x00\x02", api.ErrForm},
		{"\x00\x07\x01\x01\x01\x01\x01", api.ErrForm},
		{"\x00\x07\x03" + long + "\x00\x00", api.ErrForm},
		{"\x00\x01", api.ErrForm},
		{"\x00\x01\x00", api.ErrForm},
		{"\x00\x01\x00k", api.ErrForm},
		{"\x00\x01\x04", api.ErrForm},
		{"\x00\x01\xff\x00k", api.ErrForm},
		{"\x00\x01\x02\x80", api.ErrShort},
		{"\x00\x01\x03a\x00", api.ErrShort},
		{"\x00\x01\x01\x02", api.ErrShort},
		{"\x00\x01\x03a\x00\x01\x00k", api.ErrForm},
		{"\x00\x01\x03" + long + "\x00\x00\x00k", api.ErrLarge},
		{"\x00\x01\x01\x01\x01\x01\x01\x00k", api.ErrLarge},
		{"\x00\x01\x01\x01\x01\x01\xff", api.ErrLarge},
		{"\x00\x01\x01\x01\x01\x02", api.ErrShort},
		{"\x00\x01\x01\x01\x01\x01\x00k", api.ErrForm},
		{"\x00\x01\x03a\x00\x00\x03b\x00\x00\x03c\x00\x00\x00k", api.ErrForm},
		{"\x00\x01\x01\x00k", api.ErrForm},
		{"\x00\x01\x01\x03a\x00\x00\x00k", api.ErrForm},
		{"\x00\x01\x03a\x00\x00\x01\x00k", api.ErrForm},
		{"\x00\x01\x03a\x00\x00", api.ErrForm},
		{"\x00\x01\x03a\x00\x00\x00", api.ErrForm},
		{"\x00\x01\x03a\x00\x00k", api.ErrForm},
		{"\x00\x01\x03a\x00\x00\x00" + strings.Repeat("k", api.MaxKey+1), api.ErrForm},
		{"\x00\x01\x03a\x00\x00\x00" + strings.Repeat("k", 1<<20), api.ErrForm},
		{"\x00\x06\x02\x80\x00\x00\x00\x00\x00\x00\x01\x02\x80\x00\x00\x00\x00\x00\x00\x01", api.ErrForm},
	} {
		if id, l, key, e := record.Parse(c.s); id != 0 || len(l) != 0 || key != "" || e != c.e {
			t.Errorf("Parse(%x) = %d %#v %q %d, not the error %d alone", c.s, id, l, key, e, c.e)
		}
	}
}

func TestParseOfCutEntries(t *testing.T) {
	s := sample.Entry(2, []api.Val{number(7), text("a")}, "k")
	for n := range len(s) {
		want := api.ErrShort
		switch n {
		// The Id alone; the row's first value; the row; and the byte 00.
		case 2, 2 + 9, len(s) - 2, len(s) - 1:
			want = api.ErrForm
		}
		if id, l, key, e := record.Parse(s[:n]); id != 0 || len(l) != 0 || key != "" || e != want {
			t.Errorf("Parse(%x) = %d %#v %q %d, not the error %d alone", s[:n], id, l, key, e, want)
		}
	}
}

func TestEntryOfParseIsTheText(t *testing.T) {
	read := 0
	bytes := "\x00\x01\x03\x06\x07a\xff"
	for n := range 7 * 7 * 7 * 7 * 7 * 7 {
		s := "\x00"
		for ; n > 0; n /= 7 {
			s += bytes[n%7 : n%7+1]
		}
		id, l, key, e := record.Parse(s)
		if e != api.OK {
			continue
		}
		read++
		if got, e := record.Entry(id, l, key); got != s || e != api.OK {
			t.Errorf("Entry of Parse(%x) = %x %d", s, got, e)
		}
	}
	if read < 5 {
		t.Errorf("of all short texts only %d are entries", read)
	}
}

// P4.5

func TestLies(t *testing.T) {
	rows := shown()
	for i, low := range sample.Borders() {
		for j, high := range sample.Borders() {
			for _, l := range rows[(i+j)%5*len(rows)/5 : (i+j)%5*len(rows)/5+len(rows)/5] {
				if got := record.Lies(l, low, high); got != sample.LiesIn(l, low, high) {
					t.Errorf("Lies(%#v, %#v, %#v) = %t", l, low, high, got)
				}
			}
		}
	}
	for _, l := range sample.Borders() {
		if !record.Lies(l, l, l) || !record.Lies(l, nil, nil) {
			t.Errorf("%#v doesn't lie in what it borders", l)
		}
	}
}

func TestLiesOfWhatIsNoRow(t *testing.T) {
	row := []api.Val{number(1)}
	for _, no := range slices.Concat(sample.BadRecords(), sample.LargeRecords()) {
		for _, other := range [][]api.Val{nil, row, {text("\xff")}} {
			if record.Lies(no, other, other) || record.Lies(no, nil, other) || record.Lies(no, no, no) {
				t.Errorf("%d values, of which one may not be, lie in an area", len(no))
			}
			if record.Lies(other, no, other) || record.Lies(row, nil, no) || record.Lies(row, no, no) {
				t.Errorf("something lies in an area whose border of %d values may not be", len(no))
			}
		}
	}
}

func TestArea(t *testing.T) {
	for _, c := range []struct {
		id        int
		low, high []api.Val
		want      api.Range
	}{
		{1, nil, nil, api.Range{Lo: "\x00\x01", Hi: "\x00\x02"}},
		{6, nil, nil, api.Range{Lo: "\x00\x06", Hi: "\x00\x07"}},
		{2, []api.Val{text("a")}, nil, api.Range{Lo: "\x00\x02\x03a\x00\x00", Hi: "\x00\x03"}},
		{2, nil, []api.Val{text("a")}, api.Range{Lo: "\x00\x02", Hi: "\x00\x02\x03a\x00\x01"}},
		{2, nil, []api.Val{number(math.MaxInt)}, api.Range{Lo: "\x00\x02", Hi: "\x00\x02\x03"}},
		{2, []api.Val{null()}, []api.Val{null(), null()}, api.Range{Lo: "\x00\x02\x01", Hi: "\x00\x02\x01\x02"}},
		{2, []api.Val{text("b")}, []api.Val{text("a")}, api.Range{Lo: "\x00\x02\x03b\x00\x00", Hi: "\x00\x02\x03a\x00\x01"}},
	} {
		if r, e := record.Area(c.id, c.low, c.high); r != c.want || e != api.OK {
			t.Errorf("Area(%d, %#v, %#v) = %x %d, not %x", c.id, c.low, c.high, r, e, c.want)
		}
	}
}

func TestInAnAreaStandJustTheEntriesThatLieInIt(t *testing.T) {
	rows := shown()
	for i, low := range sample.Borders() {
		for j, high := range sample.Borders() {
			r, e := record.Area(3, low, high)
			if e != api.OK {
				t.Errorf("Area(3, %#v, %#v) has the error %d", low, high, e)
			}
			in := func(s string) bool { return s >= r.Lo && s < r.Hi }
			for k := (i + j) % 7; k < len(rows); k += 7 {
				l, key := rows[k], sample.Keys()[k%len(sample.Keys())]
				if in(sample.Entry(3, l, key)) != sample.LiesIn(l, low, high) {
					t.Errorf("the entry of %#v, %q stands in Area(3, %#v, %#v): %t", l, key, low, high, in(sample.Entry(3, l, key)))
				}
				if in(sample.Entry(2, l, key)) || in(sample.Entry(4, l, key)) {
					t.Errorf("an entry of another index stands in Area(3, %#v, %#v)", low, high)
				}
			}
		}
	}
}

func TestAreaErrors(t *testing.T) {
	check := func(id int, low, high []api.Val, want api.Errno) {
		t.Helper()
		if r, e := record.Area(id, low, high); r != (api.Range{}) || e != want {
			t.Errorf("Area(%d, %d values, %d values) = %x %d, not the error %d alone", id, len(low), len(high), r, e, want)
		}
	}
	row := []api.Val{number(1), null(), text("a"), null()}
	for _, large := range sample.LargeRecords() {
		for _, id := range sample.BadIds() {
			check(id, row, row, api.ErrArg)
			check(id, large, row, api.ErrArg)
			check(id, row, large, api.ErrArg)
		}
		check(1, large, row, api.ErrLarge)
		check(6, row, large, api.ErrLarge)
		check(6, nil, large, api.ErrLarge)
		for _, bad := range sample.BadRecords() {
			check(1, large, bad, api.ErrLarge)
			check(1, bad, large, api.ErrArg)
		}
	}
	for _, bad := range sample.BadRecords() {
		check(1, bad, row, api.ErrArg)
		check(1, row, bad, api.ErrArg)
		check(1, bad, nil, api.ErrArg)
		check(6, nil, bad, api.ErrArg)
	}
}

// P4.6

func TestEntriesStandByWhatIsShownThenByTheKeys(t *testing.T) {
	last, count := "", 0
	for id := 1; id <= api.MaxIndexes; id++ {
		for _, l := range shown() {
			for _, key := range sample.Keys() {
				s, e := record.Entry(id, l, key)
				if e != api.OK || s <= last {
					t.Errorf("the entry of %d, %#v, %q stands ahead of the one ahead: %d", id, l, key, e)
				}
				last = s
				count++
			}
		}
	}
	if count != api.MaxIndexes*len(shown())*len(sample.Keys()) {
		t.Errorf("%d entries", count)
	}
}

// P4.6, R4

func behind() []api.Val {
	return []api.Val{text("z"), {Kind: 9}, number(7), number(8), number(9)}
}

func TestWhatIsHandedInStays(t *testing.T) {
	for _, row := range [][]api.Val{nil, {null()}, {number(1)}, {number(1), text("a\x00")}, {null(), null(), null(), null()}, {{Kind: 5}}} {
		for _, fields := range [][]int{nil, {0}, {1, 0}, {9}, {0, 0}} {
			l, check := sample.InRoom(t, row, behind()...)
			f, checkFields := sample.InRoom(t, fields, 1, 2, 3)
			record.Check(l)
			record.Pack(l)
			record.CheckIndex(api.Index{Id: 1, Fields: f})
			record.Shows(api.Index{Id: 1, Fields: f}, l)
			record.Entry(1, l, "k")
			record.Area(1, l, l)
			record.Lies(l, l, l)
			check()
			checkFields()
		}
	}
	b := []byte("\x00\x01\x03a\x00\xff\x00\x00\x00k\xff")
	s := unsafe.String(&b[0], len(b))
	record.Key(s)
	record.Unpack(s[2:8])
	record.Entry(1, []api.Val{text(s)}, s)
	record.Parse(s)
	if string(b) != "\x00\x01\x03a\x00\xff\x00\x00\x00k\xff" {
		t.Errorf("the text became %x", b)
	}
}

func TestWhatLiesBehindTheLengthIsNotRead(t *testing.T) {
	one, _ := sample.InRoom(t, []api.Val{number(1)}, behind()...)
	fields, _ := sample.InRoom(t, []int{0}, 1, 2, 3)
	none, _ := sample.InRoom(t, nil, number(1), text("a"))
	if e := record.Check(one); e != api.OK {
		t.Errorf("Check read on: %d", e)
	}
	if e := record.Check(none); e != api.ErrArg {
		t.Errorf("Check read on: %d", e)
	}
	if s, e := record.Pack(one); s != sample.RowKey(one) || e != api.OK {
		t.Errorf("Pack read on: %x %d", s, e)
	}
	if e := record.CheckIndex(api.Index{Id: 1, Fields: fields}); e != api.OK {
		t.Errorf("CheckIndex read on: %d", e)
	}
	if l, ok := record.Shows(api.Index{Id: 1, Fields: []int{1}}, one); len(l) != 0 || ok {
		t.Errorf("Shows read on in the record: %#v", l)
	}
	if l, ok := record.Shows(api.Index{Id: 1, Fields: fields}, one); !slices.Equal(l, []api.Val{number(1)}) || !ok {
		t.Errorf("Shows read on: %#v %t", l, ok)
	}
	if s, e := record.Entry(1, one, "k"); s != sample.Entry(1, one, "k") || e != api.OK {
		t.Errorf("Entry read on: %x %d", s, e)
	}
	if r, e := record.Area(1, one, none); r != (api.Range{Lo: "\x00\x01" + sample.RowKey(one), Hi: "\x00\x02"}) || e != api.OK {
		t.Errorf("Area read on: %x %d", r, e)
	}
	if !record.Lies(one, one, one) || record.Lies(one, []api.Val{number(1), null()}, nil) || !record.Lies([]api.Val{number(1), number(9)}, nil, one) {
		t.Error("Lies read on")
	}
}

// share tells whether two texts have a byte of memory in common.
func share(a, b string) bool {
	if a == "" || b == "" {
		return false
	}
	fromA, fromB := uintptr(unsafe.Pointer(unsafe.StringData(a))), uintptr(unsafe.Pointer(unsafe.StringData(b)))
	return fromA < fromB+uintptr(len(b)) && fromB < fromA+uintptr(len(a))
}

func TestWhatIsAnsweredIsNew(t *testing.T) {
	b := []byte("\x00\x01\x03ab\x00\x00\x03c\x00\xff\x00\x00\x00key")
	s := unsafe.String(&b[0], len(b))
	row := []api.Val{text("ab"), text("c\x00")}
	_, l, key, _ := record.Parse(s)
	r, _ := record.Unpack(s[2:13])
	shows, _ := record.Shows(api.Index{Id: 1, Fields: []int{1, 0}}, api.Record{text(s[3:5]), text(s[8:10])})
	entry, _ := record.Entry(1, []api.Val{text(s[3:5])}, s[14:])
	area, _ := record.Area(1, []api.Val{text(s[3:5])}, []api.Val{text(s[3:5])})
	for _, v := range slices.Concat(l, r, shows) {
		if share(v.S, s) {
			t.Error("a value that is answered lies in the text that was handed in")
		}
	}
	if share(key, s) {
		t.Error("the key that is answered lies in the text that was handed in")
	}
	clear(b)
	if !slices.Equal(l, row) || key != "key" || !slices.Equal(r, row) || !slices.Equal(shows, []api.Val{text("c\x00"), text("ab")}) {
		t.Errorf("what was answered became %#v %q %#v %#v", l, key, r, shows)
	}
	if entry != "\x00\x01\x03ab\x00\x00\x00key" || area.Lo != "\x00\x01\x03ab\x00\x00" || area.Hi != "\x00\x01\x03ab\x00\x01" {
		t.Errorf("what was answered became %x %x", entry, area)
	}
}

func TestAnswersShareNothing(t *testing.T) {
	want := api.Record{number(1), text("a"), number(2), text("b\x00")}
	x := api.Index{Id: 1, Fields: []int{1, 2}}
	spoil := func(l []api.Val) {
		l = l[:cap(l)]
		for i := range l {
			l[i] = text("other")
		}
	}
	for range 2 {
		r, _ := record.Unpack(sample.RowKey(want))
		shows, _ := record.Shows(x, r)
		_, l, _, _ := record.Parse(sample.Entry(1, want[:2], "k"))
		if !slices.Equal(r, want) || !slices.Equal(shows, want[1:3]) || !slices.Equal(l, want[:2]) {
			t.Errorf("other answers became %#v, %#v and %#v", r, shows, l)
		}
		spoil(shows)
		if !slices.Equal(r, want) {
			t.Errorf("the record became %#v by what it shows", r)
		}
		spoil(r)
		spoil(l)
	}
}

// R3

func TestNilAndNoElementsAreTheSame(t *testing.T) {
	if record.Check(nil) != record.Check(api.Record{}) {
		t.Error("Check tells nil from no field")
	}
	if record.CheckIndex(api.Index{Id: 1}) != record.CheckIndex(api.Index{Id: 1, Fields: []int{}}) {
		t.Error("CheckIndex tells nil from no field")
	}
	for _, l := range sample.Borders() {
		one, e := record.Area(1, nil, l)
		two, f := record.Area(1, []api.Val{}, l)
		if one != two || e != f || record.Lies(l, nil, nil) != record.Lies(l, []api.Val{}, []api.Val{}) {
			t.Errorf("nil isn't no value with %#v", l)
		}
	}
}

// P1, R1, R8

func TestAnyArgument(t *testing.T) {
	rows := slices.Concat(sample.Borders(), [][]api.Val{{{Kind: 9}}, {{Kind: api.Text, S: strings.Repeat("\x00", 1<<16)}}, make([]api.Val, 1<<16)})
	indexes := []api.Index{{}, {Id: 1}, {Id: 1, Fields: []int{0}}, {Id: 6, Fields: []int{3, 1}}, {Id: math.MinInt, Fields: []int{math.MaxInt}}, {Id: 2, Fields: make([]int, 1<<16)}}
	for i, l := range rows {
		other := rows[(i*7+1)%len(rows)]
		for _, x := range indexes {
			one, ok := record.Shows(x, l)
			two, same := record.Shows(x, l)
			if !slices.Equal(one, two) || ok != same || record.CheckIndex(x) != record.CheckIndex(x) {
				t.Errorf("%#v shows %#v %#v, then %#v", l, x, one, two)
			}
			s, e := record.Entry(x.Id, l, "k")
			again, f := record.Entry(x.Id, l, "k")
			if s != again || e != f {
				t.Errorf("Entry(%d, %#v) = %x %d, then %x %d", x.Id, l, s, e, again, f)
			}
			r, e := record.Area(x.Id, l, other)
			same2, f := record.Area(x.Id, l, other)
			if r != same2 || e != f || record.Lies(l, other, l) != record.Lies(l, other, l) {
				t.Errorf("Area(%d, %#v, %#v) = %x %d, then %x %d", x.Id, l, other, r, e, same2, f)
			}
		}
	}
}

// The chapter's examples

func TestExamples(t *testing.T) {
	x := api.Index{Id: 3, Fields: []int{1, 0}}
	if l, ok := record.Shows(x, api.Record{number(5), text("a")}); !slices.Equal(l, []api.Val{text("a"), number(5)}) || !ok {
		t.Errorf("(5, a) shows %#v %t", l, ok)
	}
	for _, r := range []api.Record{{number(5)}, {number(5), null()}} {
		if l, ok := record.Shows(x, r); len(l) != 0 || ok {
			t.Errorf("%#v shows %#v %t", r, l, ok)
		}
	}
	if s, e := record.Entry(1, []api.Val{text("a")}, "k"); s != "\x00\x01\x03\x61\x00\x00\x00\x6b" || e != api.OK {
		t.Errorf("Entry(1, a, k) = %x %d", s, e)
	}
	low, high := []api.Val{number(1), number(4)}, []api.Val{number(2)}
	for _, c := range []struct {
		l    []api.Val
		want bool
	}{
		{[]api.Val{number(1), number(3)}, false},
		{[]api.Val{number(1), number(4)}, true},
		{[]api.Val{number(2), number(9)}, true},
		{[]api.Val{number(3)}, false},
	} {
		if got := record.Lies(c.l, low, high); got != c.want {
			t.Errorf("%#v lies in the area: %t", c.l, got)
		}
	}
}
