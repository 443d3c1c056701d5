package run_test

import (
	"bytes"
	"encoding/hex"
	"fmt"
	"math"
	"slices"
	"strings"
	"testing"

	"shelfmark/api"
	"shelfmark/pack"
	"shelfmark/run"
	"shelfmark/sample"
)

// P9.1

func TestRightOfRuns(t *testing.T) {
	for _, l := range append(runs(), []api.Change{}) {
		if !run.Right(l) {
			t.Errorf("%s is no run", name(l))
		}
	}
}

func TestRightOfOtherLists(t *testing.T) {
	for _, l := range notRuns() {
		if run.Right(l) {
			t.Errorf("%s is a run", name(l))
		}
	}
}

func TestRightOfAllSmallLists(t *testing.T) {
	for _, l := range sample.Lists(4, few()...) {
		if got := run.Right(l); got != isRun(l) {
			t.Errorf("Right(%s) = %t", name(l), got)
		}
	}
}

func TestMakeHasTheLastChangeOfEachKey(t *testing.T) {
	for _, c := range []struct{ l, want []api.Change }{
		{nil, nil},
		{[]api.Change{}, nil},
		{[]api.Change{put("", "")}, []api.Change{put("", "")}},
		{[]api.Change{put("a", "1"), put("a", "2"), put("a", "3")}, []api.Change{put("a", "3")}},
		{[]api.Change{put("a", "3"), put("a", "2"), put("a", "1")}, []api.Change{put("a", "1")}},
		{[]api.Change{put("a", "1"), gone("a")}, []api.Change{gone("a")}},
		{[]api.Change{gone("a"), put("a", "1")}, []api.Change{put("a", "1")}},
		{[]api.Change{gone("a"), put("a", "")}, []api.Change{put("a", "")}},
		{[]api.Change{put("b", "2"), put("a", "1"), gone("c")}, []api.Change{put("a", "1"), put("b", "2"), gone("c")}},
		{[]api.Change{{Key: "a", Val: "x", Gone: true}}, []api.Change{gone("a")}},
		{[]api.Change{put("b", ""), {Key: "a", Val: "x", Gone: true}, put("b", "y"), put("a", "1"), {Key: "a", Val: "z", Gone: true}}, []api.Change{gone("a"), put("b", "y")}},
		{[]api.Change{put("ä", ""), put("z", ""), put("Z", ""), put("\x80", ""), put("\x7f", ""), put("a\x00", ""), put("a", "")},
			[]api.Change{put("Z", ""), put("a", ""), put("a\x00", ""), put("z", ""), put("\x7f", ""), put("\x80", ""), put("ä", "")}},
	} {
		checkChanges(t, "Make of "+name(c.l), run.Make(c.l), c.want)
	}
	for _, l := range slices.Concat(sample.Lists(4, few()...), notRuns()) {
		checkChanges(t, "Make of "+name(l), run.Make(l), madeOf(l))
	}
}

func TestMakeOfARunIsTheRun(t *testing.T) {
	for _, l := range runs() {
		checkChanges(t, "Make of "+name(l), run.Make(l), l)
	}
}

func TestMakeOfManyChanges(t *testing.T) {
	d := sample.Dice(9)
	for range 2000 {
		l := thrown(&d, 60)
		checkChanges(t, "Make of "+name(l), run.Make(l), madeOf(l))
	}
	// Long lists are sorted in other ways than short ones.
	var l []api.Change
	for i := range 50000 {
		l = append(l, put(fmt.Sprint(d.Below(3000)), fmt.Sprint(i)))
	}
	checkChanges(t, "Make of a long list", run.Make(l), madeOf(l))
}

// P9.2

// checkMerge asks Merge for the run that it has to make.
func checkMerge(t *testing.T, l ...[]api.Change) {
	t.Helper()
	got, e := run.Merge(l...)
	if want := mergedOf(l...); !slices.Equal(got, want) || e != api.OK {
		t.Errorf("Merge of %s = %s, %d, not %s", name(l...), name(got), e, name(want))
	}
}

func TestMergeHasTheChangeOfTheFirstRun(t *testing.T) {
	one, two, three := []api.Change{gone("a"), put("d", "1")}, []api.Change{put("a", "2"), put("c", "2"), gone("d")}, []api.Change{put("", "3"), put("a", "3"), gone("c"), put("e", "3")}
	for _, c := range []struct {
		l    [][]api.Change
		want []api.Change
	}{
		{nil, nil},
		{[][]api.Change{}, nil},
		{[][]api.Change{nil}, nil},
		{[][]api.Change{nil, {}, nil}, nil},
		{[][]api.Change{one}, one},
		{[][]api.Change{one, one}, one},
		{[][]api.Change{nil, one, {}}, one},
		{[][]api.Change{one, two}, []api.Change{gone("a"), put("c", "2"), put("d", "1")}},
		{[][]api.Change{two, one}, two},
		{[][]api.Change{one, two, three}, []api.Change{put("", "3"), gone("a"), put("c", "2"), put("d", "1"), put("e", "3")}},
		{[][]api.Change{three, two, one}, []api.Change{put("", "3"), put("a", "3"), gone("c"), gone("d"), put("e", "3")}},
		{[][]api.Change{two, three, one}, []api.Change{put("", "3"), put("a", "2"), put("c", "2"), gone("d"), put("e", "3")}},
	} {
		got, e := run.Merge(c.l...)
		checkErr(t, "Merge of "+name(c.l...), e, api.OK)
		checkChanges(t, "Merge of "+name(c.l...), got, c.want)
	}
}

func TestMergeOfAllSmallRuns(t *testing.T) {
	small := smallRuns(2)
	for _, a := range small {
		checkMerge(t, a)
		for _, b := range small {
			checkMerge(t, a, b)
			for _, c := range small {
				checkMerge(t, a, b, c)
			}
		}
	}
}

func TestMergeOfRunsOfUnlikeLengths(t *testing.T) {
	all := runs()
	for i, a := range all {
		b, c := all[(i*7+3)%len(all)], all[(i*5+2)%len(all)]
		checkMerge(t, a)
		checkMerge(t, a, b)
		checkMerge(t, b, a, c)
		checkMerge(t, nil, c, a, nil, b, a, nil)
	}
	checkMerge(t, all...)
	slices.Reverse(all)
	checkMerge(t, all...)
}

func TestMergeOfWhatDiceThrow(t *testing.T) {
	d := sample.Dice(92)
	for range 2000 {
		var l [][]api.Change
		for range d.Below(12) {
			l = append(l, madeOf(thrown(&d, 20)))
		}
		checkMerge(t, l...)
	}
}

func TestMergeOfManyRuns(t *testing.T) {
	var same, apart [][]api.Change
	for i := range 2000 {
		same = append(same, []api.Change{put("a", fmt.Sprint(i)), put(fmt.Sprintf("b%04d", i%50), fmt.Sprint(i))})
		apart = append(apart, []api.Change{put(fmt.Sprintf("%04d", i*7%2000), fmt.Sprint(i))})
	}
	checkMerge(t, same...)
	checkMerge(t, apart...)
}

func TestMergeOfWhatIsNoRunIsRefused(t *testing.T) {
	for _, bad := range notRuns() {
		for _, l := range [][][]api.Change{
			{bad}, {bad, bad}, {nil, bad}, {bad, nil}, {{put("a", "")}, bad}, {bad, {put("a", "")}},
			{{put("a", "")}, {put("b", "")}, bad}, {{put("a", "")}, bad, {gone("a")}}, {nil, bad, nil, {gone("a")}},
		} {
			got, e := run.Merge(l...)
			checkErr(t, "Merge of "+name(l...), e, api.ErrForm)
			checkChanges(t, "Merge of "+name(l...), got, nil)
		}
	}
}

// P9.3

func TestFindTellsAKeysChange(t *testing.T) {
	for _, l := range runs() {
		for _, want := range l {
			if got, ok := run.Find(l, want.Key); got != want || !ok {
				t.Errorf("Find(%s, %.50q) = %#v, %t", name(l), want.Key, got, ok)
			}
		}
	}
}

func TestFindOfAKeyThatIsNotThere(t *testing.T) {
	for _, l := range runs() {
		keys := []string{"", "a", "a\x00", "a\x00\x00", "b", "\xff", "\xff\xff", "x", strings.Repeat("k", 129)}
		for _, c := range l {
			keys = append(keys, c.Key+"\x00", c.Key+"k", c.Key[:len(c.Key)/2])
		}
		for _, key := range keys {
			at := slices.IndexFunc(l, func(c api.Change) bool { return c.Key == key })
			if got, ok := run.Find(l, key); at < 0 && (got != api.Change{} || ok) {
				t.Errorf("Find(%s, %.50q) = %#v, %t", name(l), key, got, ok)
			}
		}
	}
}

func TestFindInWhatIsNoRun(t *testing.T) {
	for _, l := range notRuns() {
		for _, c := range append(l, gone(""), put("a", ""), put("x", "")) {
			if got, ok := run.Find(l, c.Key); got != (api.Change{}) || ok {
				t.Errorf("Find(%s, %q) = %#v, %t", name(l), c.Key, got, ok)
			}
		}
	}
}

// sliceOf are those changes of a run that a range has.
func sliceOf(l []api.Change, r api.Range) []api.Change {
	return slices.DeleteFunc(slices.Clone(l), func(c api.Change) bool {
		return strings.Compare(c.Key, r.Lo) < 0 || len(r.Hi) > 0 && strings.Compare(c.Key, r.Hi) >= 0
	})
}

func TestSliceOfKnownRanges(t *testing.T) {
	l := []api.Change{put("", "0"), gone("a"), put("a\x00", "1"), put("b", "2"), gone("c"), put("\xff", "3")}
	for _, c := range []struct {
		lo, hi   string
		from, to int
	}{
		{"", "", 0, 6},
		{"", "a", 0, 1},
		{"a", "", 1, 6},
		{"a", "c", 1, 4},
		{"a", "a\x00", 1, 2},
		{"a\x00", "b\x00", 2, 4},
		{"aa", "bb", 3, 4},
		{"c", "\xff", 4, 5},
		{"c", "\xff\x00", 4, 6},
		{"\xff", "", 5, 6},
		{"\xff\x00", "", 6, 6},
		{"", "\x00", 0, 1},
		{"aa", "ab", 3, 3},
		{"a", "a", 0, 0},
		{"b", "a", 0, 0},
		{"c", "\x00", 0, 0},
	} {
		checkChanges(t, fmt.Sprintf("Slice from %q to %q", c.lo, c.hi), run.Slice(l, api.Range{Lo: c.lo, Hi: c.hi}), l[c.from:c.to])
	}
}

func TestSliceHasTheChangesOfTheRange(t *testing.T) {
	for _, l := range runs() {
		ends := []string{"", "\x00", "a", "aa", "b", "\xff", strings.Repeat("\xff", 70001)}
		for i := 0; i < len(l); i += 1 + len(l)/5 {
			ends = append(ends, l[i].Key, l[i].Key+"\x00")
		}
		for _, lo := range ends {
			for _, hi := range ends {
				r := api.Range{Lo: lo, Hi: hi}
				checkChanges(t, fmt.Sprintf("Slice(%s, %.99q)", name(l), r), run.Slice(l, r), sliceOf(l, r))
			}
		}
	}
}

func TestLiveHasWhatIsNotGone(t *testing.T) {
	for _, l := range append(runs(), []api.Change{}) {
		var want []api.Pair
		for _, c := range l {
			if !c.Gone {
				want = append(want, api.Pair{Key: c.Key, Val: c.Val})
			}
		}
		if got := run.Live(l); !slices.Equal(got, want) {
			t.Errorf("Live(%s) = %.200q", name(l), got)
		}
	}
}

func TestWhatIsNoRunTellsNothing(t *testing.T) {
	for _, l := range notRuns() {
		for _, r := range []api.Range{{}, {Lo: "a"}, {Hi: "z"}, {Lo: "a", Hi: "b"}, {Lo: "z", Hi: "a"}} {
			checkChanges(t, fmt.Sprintf("Slice(%s, %q)", name(l), r), run.Slice(l, r), nil)
		}
		if got := run.Live(l); len(got) != 0 {
			t.Errorf("Live(%s) = %.200q", name(l), got)
		}
	}
}

// P9.4

func TestPackIsTheForm(t *testing.T) {
	for _, c := range []struct {
		l    []api.Change
		want string
	}{
		{nil, "00"},
		{[]api.Change{}, "00"},
		{[]api.Change{put("", "")}, "01000000"},
		{[]api.Change{gone("")}, "01000100"},
		{[]api.Change{put("a", "1"), put("b", ""), gone("c")}, "0301610001310162000001630100"},
		{[]api.Change{put("\x00\xff", "\xff\x00\x01")}, "010200ff0003ff0001"},
	} {
		got, e := run.Pack(c.l)
		if hex.EncodeToString(got) != c.want || e != api.OK {
			t.Errorf("Pack(%s) = %x, %d, not %s", name(c.l), got, e, c.want)
		}
	}
	for _, l := range runs() {
		if got, e := run.Pack(l); !bytes.Equal(got, formOf(l)) || e != api.OK {
			t.Errorf("Pack(%s) = %d bytes, %d, or others", name(l), len(got), e)
		}
	}
}

func TestPackOfWhatIsNoRunIsRefused(t *testing.T) {
	for _, l := range notRuns() {
		if got, e := run.Pack(l); len(got) != 0 || e != api.ErrForm {
			t.Errorf("Pack(%s) = %x, %d", name(l), got, e)
		}
	}
}

// checkUnpack asks Unpack for a run, or for an error alone.
func checkUnpack(t *testing.T, b []byte, want []api.Change, e api.Errno) {
	t.Helper()
	got, gotErr := run.Unpack(b)
	call := fmt.Sprintf("Unpack of %d bytes %.50x", len(b), b)
	checkErr(t, call, gotErr, e)
	checkChanges(t, call, got, want)
}

func TestUnpackReadsWhatPackWrites(t *testing.T) {
	for _, l := range runs() {
		checkUnpack(t, formOf(l), l, api.OK)
	}
}

func TestUnpackOfWhatIsCutOff(t *testing.T) {
	for _, l := range runs() {
		b := formOf(l)
		for n := 0; n < len(b); n += 1 + len(b)/100 {
			checkUnpack(t, b[:n], nil, api.ErrShort)
		}
		checkUnpack(t, b[:len(b)-1], nil, api.ErrShort)
	}
}

func TestUnpackOfWhatHasSomethingLeft(t *testing.T) {
	for _, l := range runs() {
		b := formOf(l)
		for _, behind := range []string{"\x00", "\x01", "\x80", "\xff\xff", string(b)} {
			checkUnpack(t, slices.Concat(b, []byte(behind)), nil, api.ErrForm)
		}
	}
}

func TestUnpackOfWhatIsNoRun(t *testing.T) {
	for _, l := range notRuns() {
		checkUnpack(t, formOf(l), nil, api.ErrForm)
		// What is missing behind it is looked for ahead of that.
		checkUnpack(t, formOf(append(slices.Clone(l), put("", "x")))[:len(formOf(l))], nil, api.ErrShort)
	}
}

func TestUnpackErrorsInTheirOrder(t *testing.T) {
	most := string(pack.Num(math.MaxInt))
	for _, c := range []struct {
		b string
		e api.Errno
	}{
		{"", api.ErrShort},
		{"\x80", api.ErrShort},
		{"\x80\x00", api.ErrForm},
		{"\xff\xff\xff\xff\xff\xff\xff\xff\xff", api.ErrForm},
		{"\xff\xff\xff\xff\xff\xff\xff\xff", api.ErrShort},
		{most, api.ErrShort},
		{most + "\x00\x00\x00\x00\x00\x00", api.ErrShort},
		{most + "\x01a\x02", api.ErrForm},
		// The key.
		{"\x01", api.ErrShort},
		{"\x01\x80", api.ErrShort},
		{"\x01\x80\x00\x00\x00", api.ErrForm},
		{"\x01\x02a", api.ErrShort},
		{"\x01\x04a\x02\x00", api.ErrShort},
		{"\x01" + most + "aaa", api.ErrShort},
		// The number.
		{"\x01\x01a", api.ErrShort},
		{"\x01\x01a\x80", api.ErrShort},
		{"\x01\x01a\x81\x00\x00", api.ErrForm},
		{"\x01\x01a\x02", api.ErrForm},
		{"\x01\x01a\x02\x00", api.ErrForm},
		{"\x01\x01a\x02\x05x", api.ErrForm},
		{"\x01\x01a\x7f\x00", api.ErrForm},
		{"\x01\x01a\x80\x01\x00", api.ErrForm},
		{"\x01\x01a\x81\x02\x00", api.ErrForm},
		{"\x01\x01a" + most + "\x00", api.ErrForm},
		// The Val.
		{"\x01\x01a\x00", api.ErrShort},
		{"\x01\x01a\x01", api.ErrShort},
		{"\x01\x01a\x00\x80", api.ErrShort},
		{"\x01\x01a\x00\x80\x00", api.ErrForm},
		{"\x01\x01a\x00\x02x", api.ErrShort},
		{"\x01\x01a\x01\x02x", api.ErrShort},
		{"\x01\x01a\x00" + most + "x", api.ErrShort},
		// Change by change: what is wrong with the second one, or missing, comes behind the first one's faults, and ahead of what is left or is no run.
		{"\x02\x01a\x02\x00", api.ErrForm},
		{"\x02\x01a\x00\x00", api.ErrShort},
		{"\x02\x01b\x00\x00\x01a", api.ErrShort},
		{"\x02\x01b\x00\x00\x01a\x03", api.ErrForm},
		{"\x02\x01b\x00\x00\x01a\x00", api.ErrShort},
		{"\x02\x01b\x01\x01x\x01c", api.ErrShort},
		{"\x02\x01a\x00\x00\x01b\x00\x03xy", api.ErrShort},
		// Left, or no run.
		{"\x00\x00", api.ErrForm},
		{"\x00\x80", api.ErrForm},
		{"\x01\x01a\x00\x00\x00", api.ErrForm},
		{"\x01\x01a\x01\x01x", api.ErrForm},
		{"\x02\x01b\x00\x00\x01a\x00\x00", api.ErrForm},
		{"\x02\x01a\x00\x00\x01a\x00\x00", api.ErrForm},
		{"\x02\x01a\x00\x00\x01a\x01\x00", api.ErrForm},
		{"\x02\x00\x00\x00\x00\x00\x00", api.ErrForm},
		{"\x02\x02ab\x00\x00\x01a\x00\x00", api.ErrForm},
	} {
		checkUnpack(t, []byte(c.b), nil, c.e)
	}
}

func TestUnpackOfAllShortBytes(t *testing.T) {
	for _, b := range sample.Lists(7, 0, 1, 2, 'a', byte(0x80)) {
		checkUnpackAsAsked(t, b)
	}
}

// checkUnpackAsAsked asks for the error of bytes, or for the run whose form they are.
func checkUnpackAsAsked(t *testing.T, b []byte) {
	t.Helper()
	got, e := run.Unpack(b)
	if want := unpackError(b); e != want {
		t.Errorf("Unpack(%.50x) has the error %d, not %d", b, e, want)
	}
	if e == api.OK && (!isRun(got) || !bytes.Equal(formOf(got), b)) || e != api.OK && len(got) != 0 {
		t.Errorf("Unpack(%.50x) = %s, %d", b, name(got), e)
	}
}

func TestUnpackOfWhatDiceTurn(t *testing.T) {
	d := sample.Dice(94)
	for range 20000 {
		l := thrown(&d, 6)
		if d.Below(4) > 0 {
			l = madeOf(l)
		}
		b := formOf(l)
		for range d.Below(3) {
			b[d.Below(len(b))] = sample.Pick(&d, []byte{0, 1, 2, 3, 'a', 0x7f, 0x80, 0xff})
		}
		checkUnpackAsAsked(t, b)
	}
}

func TestOfAnyLength(t *testing.T) {
	long := strings.Repeat("k", 1<<22)
	l := []api.Change{put(long[1:], ""), put(long, long)}
	checkUnpack(t, formOf(l), l, api.OK)
	var many []api.Change
	for i := range 100000 {
		many = append(many, put(fmt.Sprintf("%06d", i), "v"))
	}
	checkUnpack(t, formOf(many), many, api.OK)
	checkMerge(t, many[:60000], many[40000:], many)
	checkChanges(t, "Make of many", run.Make(many), many)
	checkChanges(t, "Slice of many", run.Slice(many, api.Range{Lo: "001000", Hi: "099000"}), many[1000:99000])
	if got, ok := run.Find(many, "077777"); got != many[77777] || !ok {
		t.Errorf("Find in many = %#v, %t", got, ok)
	}
}

// The chapter's examples

func TestExamples(t *testing.T) {
	checkChanges(t, "Make", run.Make([]api.Change{put("a", "1"), put("b", "2"), gone("a")}), []api.Change{gone("a"), put("b", "2")})
	merged, e := run.Merge([]api.Change{gone("a")}, []api.Change{put("a", "1"), put("c", "3")})
	checkErr(t, "Merge", e, api.OK)
	checkChanges(t, "Merge", merged, []api.Change{gone("a"), put("c", "3")})
	if live := run.Live(merged); !slices.Equal(live, []api.Pair{{Key: "c", Val: "3"}}) {
		t.Errorf("Live = %q", live)
	}
	if b, e := run.Pack(merged); hex.EncodeToString(b) != "02016101000163000133" || e != api.OK {
		t.Errorf("Pack = %x, %d", b, e)
	}
}
