package outbox_test

import (
	"fmt"
	"math"
	"slices"
	"strings"
	"testing"

	"shelfmark/api"
	"shelfmark/outbox"
	"shelfmark/sample"
)

// borders are texts at which an outbox is cut: at records' keys, right behind them, and elsewhere.
func borders() []string {
	l := []string{"", "\x00", "\x00\x01", "\x00\x02", "a\x00\x00", "zz", strings.Repeat("\xff", 17), strings.Repeat("k", 300)}
	for _, key := range append(sample.Keys(), "b", "b\x00", "c") {
		l = append(l, key, key+"\x00")
	}
	return append(l, some()...)
}

// P18.3: Cut

func TestCut(t *testing.T) {
	for _, l := range [][]api.Intent{nil, few(1), few(24), intents()} {
		for _, most := range []int{len(l), len(l) + 3, math.MaxInt} {
			b := box(t, most, l...)
			for _, at := range borders() {
				one, two := b.Cut(at)
				low, high := parted(l, at)
				checkBox(t, one, most, low)
				checkBox(t, two, most, high)
				if t.Failed() {
					t.Fatalf("cut at %.50q", at)
				}
			}
			checkBox(t, b, most, l)
		}
	}
}

// What decides is the record's key: entries that show more aren't the ones of greater keys.
func TestCutIsByTheRecordsKeys(t *testing.T) {
	l := []api.Intent{
		intent(entryOf(6, "a", sample.Text("z")), 9, false), intent(entryOf(1, "c", sample.Int(1)), 1, true),
		intent(entryOf(1, "b", sample.Int(1)), 1, false), intent(entryOf(1, "\x00", sample.Text("\xff")), 3, true),
	}
	b := box(t, 4, l...)
	for _, c := range []struct {
		at        string
		low, high []api.Intent
	}{
		{"", nil, l}, {"\x00", nil, l}, {"\x00\x00", l[3:], l[:3]}, {"a", l[3:], l[:3]}, {"a\x00", []api.Intent{l[0], l[3]}, l[1:3]},
		{"b", []api.Intent{l[0], l[3]}, l[1:3]}, {"b\x00", []api.Intent{l[0], l[2], l[3]}, l[1:2]}, {"c", []api.Intent{l[0], l[2], l[3]}, l[1:2]}, {"c\x00", l, nil}, {"\xff", l, nil},
	} {
		low, high := b.Cut(c.at)
		checkBox(t, low, 4, c.low)
		checkBox(t, high, 4, c.high)
	}
}

func TestCutOfAnOutboxForNone(t *testing.T) {
	for _, most := range []int{math.MinInt, -1, 0} {
		for _, at := range borders() {
			low, high := outbox.New(most).Cut(at)
			for _, b := range []*outbox.Box{low, high} {
				checkAdd(t, b, few(1), api.ErrFull)
				checkBox(t, b, 0, nil)
			}
		}
	}
}

// Both are for as many as the one that was cut.
func TestCutLeavesRoomForAsMany(t *testing.T) {
	l := few(8)
	one, two := box(t, 5, l[:4]...).Cut("b")
	low, high := parted(l[:4], "b")
	for _, c := range []struct {
		b *outbox.Box
		l []api.Intent
	}{{one, low}, {two, high}} {
		more := without(l, c.l)[:5-len(c.l)]
		checkAdd(t, c.b, more, api.OK)
		checkAdd(t, c.b, without(l, append(c.l, more...))[:1], api.ErrFull)
		checkBox(t, c.b, 5, slices.Concat(c.l, more))
	}
}

func TestThePartsOfACutGoOnByThemselves(t *testing.T) {
	l := few(24)
	// Also where one part has nothing, the other one all.
	for _, at := range []string{"", "b", "\xff"} {
		low, high := parted(l, at)
		for of := range 3 {
			b := box(t, 30, l...)
			one, two := b.Cut(at)
			all := []place{{b, 30, l}, {one, 30, low}, {two, 30, high}}
			goesOn(all[of].b)
			for _, p := range slices.Delete(all, of, of+1) {
				checkBox(t, p.b, p.most, p.want)
			}
		}
	}
}

// What one part has, and what it hasn't any more, the other one may take.
func TestThePartsOfACutTakeAnyIntents(t *testing.T) {
	l := few(24)
	low, high := parted(l, "b")
	one, two := box(t, 30, l...).Cut("b")
	checkAdd(t, one, high, api.OK)
	checkBox(t, one, 30, slices.Concat(low, high))
	checkDone(t, two, high[:1], 1)
	checkAdd(t, two, high[:1], api.OK)
	checkBox(t, two, 30, slices.Concat(high[1:], high[:1]))
}

// P18.3: Join

// checkJoin asks for what two lists come to in boxes, and that these stay as they are.
func checkJoin(t *testing.T, most, other int, a, b []api.Intent) {
	t.Helper()
	one, two := box(t, most, a...), box(t, other, b...)
	want, e := added(most, a, b)
	j, got := outbox.Join(one, two)
	if got != e || (j == nil) != (e != api.OK) {
		t.Fatalf("Join(%s, %s) for %d = %v, %d, not the error %d", name(a...), name(b...), most, j, got, e)
	}
	if e == api.OK {
		checkBox(t, j, most, want)
	}
	checkBox(t, one, most, a)
	checkBox(t, two, other, b)
}

func TestJoinOfAllSmallOutboxes(t *testing.T) {
	e, f := some()[0], some()[1]
	var lists [][]api.Intent
	for _, l := range sample.Lists(3, intent(e, 1, false), intent(e, 1, true), intent(e, 2, false), intent(f, 1, true)) {
		if len(united(nil, l)) == len(l) {
			lists = append(lists, l)
		}
	}
	for _, a := range lists {
		for _, b := range lists {
			for most := len(a); most <= len(a)+len(b); most++ {
				checkJoin(t, most, 3, a, b)
			}
		}
	}
}

func TestJoin(t *testing.T) {
	l := few(12)
	other := slices.Clone(l[4:9])
	slices.Reverse(other)
	for i := range other {
		other[i].Gone = !other[i].Gone
	}
	for _, c := range []struct{ a, b []api.Intent }{
		{l[:5], l[5:]}, {l[5:], l[:5]}, {l, nil}, {nil, l}, {l[:8], l[4:]}, {l[4:], l[:8]}, {l, l}, {l[:6], other}, {other, l[:6]}, {other, l}, {l, other},
	} {
		for _, most := range []int{12, 13, 40, math.MaxInt} {
			for _, more := range []int{0, 1, 100} {
				checkJoin(t, most, len(c.b)+more, c.a, c.b)
			}
		}
	}
	all := intents()
	half := len(all) / 2
	checkJoin(t, len(all), half, all[half:], all[:half])
	checkJoin(t, len(all)-1, half, all[half:], all[:half])
}

// How many there may be a says alone.
func TestJoinErrFull(t *testing.T) {
	l := few(9)
	checkJoin(t, 8, 100, l[:4], l[4:])
	checkJoin(t, 9, 5, l[:4], l[4:])
	checkJoin(t, 4, 100, l[:4], l[4:5])
	checkJoin(t, 4, 100, l[:4], l[:4])
	checkJoin(t, 4, 100, l[:4], l[1:5])
	checkJoin(t, 0, 100, nil, l)
	checkJoin(t, 0, 100, nil, nil)
	checkJoin(t, -1, 100, nil, l[:1])
	checkJoin(t, math.MinInt, math.MinInt, nil, nil)
	checkJoin(t, math.MaxInt, 0, l, nil)
}

func TestJoinWithOneself(t *testing.T) {
	for _, l := range [][]api.Intent{nil, few(7), intents()} {
		b := box(t, len(l), l...)
		j, e := outbox.Join(b, b)
		if e != api.OK {
			t.Fatalf("Join = %d", e)
		}
		checkBox(t, j, len(l), l)
		goesOn(j)
		checkBox(t, b, len(l), l)
	}
}

func TestWhatIsJoinedGoesOnByItself(t *testing.T) {
	l := few(12)
	// Also where one of the two has nothing, the other one all.
	for _, c := range []struct{ a, b []api.Intent }{{l[:8], l[4:]}, {l, nil}, {nil, l}, {l, l}} {
		for of := range 3 {
			one, two := box(t, 20, c.a...), box(t, 20, c.b...)
			j, e := outbox.Join(one, two)
			if e != api.OK {
				t.Fatalf("Join = %d", e)
			}
			all := []place{{one, 20, c.a}, {two, 20, c.b}, {j, 20, l}}
			goesOn(all[of].b)
			for _, p := range slices.Delete(all, of, of+1) {
				checkBox(t, p.b, p.most, p.want)
			}
		}
	}
}

// What was cut, joined again, is what it was, but that the lower keys' intents are ahead.
func TestJoinOfACut(t *testing.T) {
	l := intents()
	b := box(t, len(l), l...)
	for _, at := range borders() {
		low, high := parted(l, at)
		one, two := b.Cut(at)
		j, e := outbox.Join(one, two)
		if e != api.OK {
			t.Fatalf("Join = %d", e)
		}
		checkList(t, fmt.Sprintf("Due of what was cut at %.50q", at), j.Due(len(l)), slices.Concat(low, high))
		j, e = outbox.Join(two, one)
		if e != api.OK {
			t.Fatalf("Join = %d", e)
		}
		checkList(t, fmt.Sprintf("Due of what was cut at %.50q", at), j.Due(len(l)), slices.Concat(high, low))
	}
}
