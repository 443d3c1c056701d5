package span_test

import (
	"fmt"
	"slices"
	"strings"
	"testing"

	"shelfmark/api"
	"shelfmark/sample"
	"shelfmark/span"
)

// P11.1

func TestEmptyOfRangesWithoutTexts(t *testing.T) {
	for _, r := range sample.EmptyRanges() {
		if !span.Empty(r) {
			t.Errorf("%s isn't empty", name(r))
		}
	}
}

func TestEmptyOfRangesWithTexts(t *testing.T) {
	long := strings.Repeat("k", 300)
	for _, r := range []api.Range{
		{}, from("a", ""), from("", "a"), from("", "\x00"), from("\x00", ""), from("\xff\xff", ""), from(long, ""),
		from("a", "b"), from("a", "a\x00"), from("\x00", "\x00\x00"), from("a", "ab"), from("Z", "a"), from("\x7f", "\x80"), from("z", "ä"), from("\xff", "\xff\x00"), from(long, long+"\x00"),
	} {
		if span.Empty(r) {
			t.Errorf("%s is empty", name(r))
		}
	}
}

func TestEmptyOfAllRanges(t *testing.T) {
	for _, r := range sample.Ranges(sample.Edges()...) {
		// A range that has a text has its Lo.
		if got := span.Empty(r); got == sample.InRange(r, r.Lo) {
			t.Errorf("Empty(%s) = %t", name(r), got)
		}
	}
}

func TestHasFromLoOnAndBelowHi(t *testing.T) {
	for _, c := range []struct {
		r    api.Range
		s    string
		want bool
	}{
		{from("", ""), "", true},
		{from("", ""), "\xff\xff", true},
		{from("", "a"), "", true},
		{from("", "\x00"), "", true},
		{from("", "\x00"), "\x00", false},
		{from("b", "d"), "", false},
		{from("b", "d"), "a\xff", false},
		{from("b", "d"), "b", true},
		{from("b", "d"), "b\x00", true},
		{from("b", "d"), "c\xff\xff", true},
		{from("b", "d"), "d", false},
		{from("b", "d"), "d\x00", false},
		{from("b", "d"), "e", false},
		{from("b", ""), "a", false},
		{from("b", ""), "b", true},
		{from("b", ""), "\xff", true},
		{from("ab", "ac"), "a", false},
		{from("ab", "ac"), "abc", true},
		{from("a", "a\x00"), "a", true},
		{from("a", "a\x00"), "a\x00", false},
		{from("Z", "ä"), "a", true},
		{from("\x7f", ""), "\x80", true},
		{from("d", "d"), "d", false},
		{from("d", "b"), "c", false},
		{from("d", "b"), "d", false},
		{from("d", "b"), "b", false},
	} {
		if got := span.Has(c.r, c.s); got != c.want {
			t.Errorf("Has(%s, %q) = %t", name(c.r), c.s, got)
		}
	}
}

func TestHasOfAllRanges(t *testing.T) {
	for _, r := range sample.Ranges(sample.Edges()...) {
		for _, edge := range sample.Edges() {
			for _, s := range []string{edge, edge + "\x00", edge + "\xff"} {
				if got := span.Has(r, s); got != sample.InRange(r, s) {
					t.Errorf("Has(%s, %.50q) = %t", name(r), s, got)
				}
			}
		}
	}
}

func TestMeetIsWhatBothHave(t *testing.T) {
	for _, c := range []struct {
		a, b, want api.Range
	}{
		{from("", ""), from("", ""), from("", "")},
		{from("", ""), from("b", "d"), from("b", "d")},
		{from("b", "d"), from("b", "d"), from("b", "d")},
		{from("a", "c"), from("b", "d"), from("b", "c")},
		{from("a", "d"), from("b", "c"), from("b", "c")},
		{from("a", "c"), from("a", "d"), from("a", "c")},
		{from("a", "d"), from("b", "d"), from("b", "d")},
		{from("a", ""), from("b", "d"), from("b", "d")},
		{from("c", ""), from("b", "d"), from("c", "d")},
		{from("a", ""), from("b", ""), from("b", "")},
		{from("", "c"), from("b", ""), from("b", "c")},
		{from("", "c"), from("", "d"), from("", "c")},
		{from("", "c"), from("", ""), from("", "c")},
		{from("a", "a\x00"), from("", "b"), from("a", "a\x00")},
		{from("Z", "ä"), from("a", "\x80"), from("a", "\x80")},
	} {
		checkMeet(t, c.a, c.b)
		if got, ok := span.Meet(c.a, c.b); got != c.want || !ok {
			t.Errorf("Meet(%s) = %s, %t", name(c.a, c.b), name(got), ok)
		}
	}
}

func TestMeetOfWhatHasNothingInCommon(t *testing.T) {
	l := [][2]api.Range{
		{from("a", "b"), from("b", "c")}, {from("a", "b"), from("c", "d")}, {from("", "b"), from("b", "")}, {from("", "\x00"), from("\x00", "")},
		{from("a", "a\x00"), from("a\x00", "")}, {from("a", "Z"), from("", "")},
	}
	for _, r := range sample.EmptyRanges() {
		l = append(l, [2]api.Range{r, r}, [2]api.Range{r, {}}, [2]api.Range{r, from("a", "")}, [2]api.Range{r, from("", "\xff")})
	}
	for _, c := range l {
		checkMeet(t, c[0], c[1])
		if got, ok := span.Meet(c[0], c[1]); got != (api.Range{}) || ok {
			t.Errorf("Meet(%s) = %s, %t", name(c[:]...), name(got), ok)
		}
	}
}

func TestMeetOfAllRanges(t *testing.T) {
	all := sample.Ranges(sample.Edges()...)
	for _, a := range all {
		for _, b := range all {
			checkMeet(t, a, b)
		}
	}
}

// P11.2

func TestLeastIsTheFewestRanges(t *testing.T) {
	for _, c := range []struct{ l, want []api.Range }{
		{nil, nil},
		{[]api.Range{{}}, []api.Range{{}}},
		{[]api.Range{from("a", "b")}, []api.Range{from("a", "b")}},
		{[]api.Range{from("a", "b"), from("a", "b")}, []api.Range{from("a", "b")}},
		{[]api.Range{from("c", "d"), from("a", "b")}, []api.Range{from("a", "b"), from("c", "d")}},
		// They touch.
		{[]api.Range{from("a", "b"), from("b", "c")}, []api.Range{from("a", "c")}},
		{[]api.Range{from("c", "d"), from("a", "b"), from("b", "c")}, []api.Range{from("a", "d")}},
		{[]api.Range{from("b", ""), from("", "b")}, []api.Range{{}}},
		// One text is between them.
		{[]api.Range{from("a", "b"), from("b\x00", "c")}, []api.Range{from("a", "b"), from("b\x00", "c")}},
		{[]api.Range{from("", "a"), from("a\x00", "")}, []api.Range{from("", "a"), from("a\x00", "")}},
		{[]api.Range{from("\x00", "")}, []api.Range{from("\x00", "")}},
		// They overlap, or one lies in the other.
		{[]api.Range{from("a", "c"), from("b", "d")}, []api.Range{from("a", "d")}},
		{[]api.Range{from("a", "d"), from("b", "c")}, []api.Range{from("a", "d")}},
		{[]api.Range{from("a", "d"), from("b", "c"), from("c\x00", "cc")}, []api.Range{from("a", "d")}},
		{[]api.Range{from("a", "b"), from("a", "c")}, []api.Range{from("a", "c")}},
		{[]api.Range{from("a", "c"), from("b", "c")}, []api.Range{from("a", "c")}},
		// An end that is none is above all.
		{[]api.Range{from("a", ""), from("b", "c")}, []api.Range{from("a", "")}},
		{[]api.Range{from("a", "c"), from("b", "")}, []api.Range{from("a", "")}},
		{[]api.Range{from("a", "b"), from("a", "")}, []api.Range{from("a", "")}},
		{[]api.Range{from("b", ""), from("a", "")}, []api.Range{from("a", "")}},
		{[]api.Range{from("a", "b"), {}}, []api.Range{{}}},
		{[]api.Range{from("", "a"), from("", "b")}, []api.Range{from("", "b")}},
		// Those without texts bring nothing, nor do they join others.
		{[]api.Range{from("a", "b"), from("c", "b"), from("c", "d")}, []api.Range{from("a", "b"), from("c", "d")}},
		{[]api.Range{from("a", "b"), from("b", "b"), from("b\x00", "d")}, []api.Range{from("a", "b"), from("b\x00", "d")}},
		{[]api.Range{from("d", "a"), from("a", "b"), from("z", "y")}, []api.Range{from("a", "b")}},
		// Byte by byte.
		{[]api.Range{from("ä", ""), from("a", "\x80"), from("Z", "[")}, []api.Range{from("Z", "["), from("a", "\x80"), from("ä", "")}},
	} {
		checkRanges(t, "Least("+name(c.l...)+")", span.Least(c.l), c.want)
	}
	checkRanges(t, "Least of ranges without texts", span.Least(sample.EmptyRanges()), nil)
}

func TestCoversEachTextOfTheRange(t *testing.T) {
	set := []api.Range{from("x", "b"), from("m", "p"), from("c", "e"), from("e", "g"), from("f", "k")}
	for _, c := range []struct {
		l    []api.Range
		r    api.Range
		want bool
	}{
		{set, from("c", "k"), true},
		{set, from("c", "c\x00"), true},
		{set, from("d", "f"), true},
		{set, from("b\xff", "d"), false},
		{set, from("c", "k\x00"), false},
		{set, from("j", "n"), false},
		{set, from("c", "p"), false},
		{set, from("m", "p"), true},
		{set, from("m", ""), false},
		{set, from("", "d"), false},
		{set, from("", ""), false},
		{set, from("x", "z"), false},
		{set, from("k", "k\x00"), false},
		{[]api.Range{from("a", "b"), from("b\x00", "c")}, from("a", "c"), false},
		{[]api.Range{from("b", ""), from("", "b")}, from("", ""), true},
		{[]api.Range{from("", "b"), from("b\x00", "")}, from("", ""), false},
		{[]api.Range{from("b", "")}, from("b", ""), true},
		{[]api.Range{from("b", "")}, from("c", "d"), true},
		{[]api.Range{from("b", "")}, from("a", ""), false},
		{[]api.Range{from("", "b")}, from("", ""), false},
		{[]api.Range{{}}, from("", ""), true},
		{nil, from("", ""), false},
		{nil, from("a", "b"), false},
		{nil, from("", "\x00"), false},
		{sample.EmptyRanges(), from("a", "b"), false},
	} {
		if got := span.Covers(c.l, c.r); got != c.want {
			t.Errorf("Covers(%s, %s) = %t", name(c.l...), name(c.r), got)
		}
	}
}

func TestCoversARangeWithoutTexts(t *testing.T) {
	for _, l := range [][]api.Range{nil, {}, {{}}, {from("a", "b")}, {from("x", "y"), from("z", "")}, sample.EmptyRanges()} {
		for _, r := range sample.EmptyRanges() {
			if !span.Covers(l, r) {
				t.Errorf("Covers(%s, %s) = false", name(l...), name(r))
			}
		}
	}
}

func TestMinusIsTheSetWithoutTheRange(t *testing.T) {
	set := []api.Range{from("m", ""), from("c", "e"), from("a", "c")}
	for _, c := range []struct {
		l    []api.Range
		r    api.Range
		want []api.Range
	}{
		{set, from("", ""), nil},
		{set, from("a", ""), nil},
		{set, from("", "a"), []api.Range{from("a", "e"), from("m", "")}},
		{set, from("", "b"), []api.Range{from("b", "e"), from("m", "")}},
		{set, from("b", "d"), []api.Range{from("a", "b"), from("d", "e"), from("m", "")}},
		{set, from("c", "c\x00"), []api.Range{from("a", "c"), from("c\x00", "e"), from("m", "")}},
		{set, from("a", "e"), []api.Range{from("m", "")}},
		{set, from("d", "n"), []api.Range{from("a", "d"), from("n", "")}},
		{set, from("e", "m"), []api.Range{from("a", "e"), from("m", "")}},
		{set, from("n", "o"), []api.Range{from("a", "e"), from("m", "n"), from("o", "")}},
		{set, from("d", ""), []api.Range{from("a", "d")}},
		{set, from("m", ""), []api.Range{from("a", "e")}},
		{[]api.Range{{}}, from("b", "c"), []api.Range{from("", "b"), from("c", "")}},
		{[]api.Range{{}}, from("", "c"), []api.Range{from("c", "")}},
		{[]api.Range{{}}, from("b", ""), []api.Range{from("", "b")}},
		{[]api.Range{{}}, from("", ""), nil},
		{[]api.Range{{}}, from("", "\x00"), []api.Range{from("\x00", "")}},
		// One of two that overlap has what the range takes from the other.
		{[]api.Range{from("a", "d"), from("b", "f")}, from("c", "e"), []api.Range{from("a", "c"), from("e", "f")}},
		{nil, from("a", "b"), nil},
		{sample.EmptyRanges(), from("a", "b"), nil},
	} {
		checkRanges(t, "Minus("+name(c.l...)+", "+name(c.r)+")", span.Minus(c.l, c.r), c.want)
	}
}

func TestMinusARangeWithoutTextsIsTheLeastForm(t *testing.T) {
	for _, l := range [][]api.Range{nil, {{}}, {from("c", "e"), from("a", "c")}, {from("", "b"), from("b", "")}, {from("a", ""), from("\xff", "b")}, sample.Ranges("", "a", "z")} {
		for _, r := range sample.EmptyRanges() {
			checkRanges(t, "Minus("+name(l...)+", "+name(r)+")", span.Minus(l, r), sample.Least(l))
		}
	}
}

func TestAllSmallSets(t *testing.T) {
	for _, ends := range [][]string{{"", "a", "b", "c"}, {"", "\x00", "a", "a\x00"}, {"a", "aa", "b", "\xff"}} {
		all := sample.Ranges(ends...)
		for _, l := range sample.Lists(3, all...) {
			checkSet(t, l, all...)
		}
	}
}

func TestSetsOfTwoAmidMoreEnds(t *testing.T) {
	all := sample.Ranges("", "a", "b", "b\x00", "c", "d")
	for _, l := range sample.Lists(2, all...) {
		checkSet(t, l, all...)
	}
}

func TestSetsThatDiceThrow(t *testing.T) {
	d := sample.Dice(11)
	for i := range 6000 {
		l := sample.ThrownRanges(&d, 2+i%40)
		checkSet(t, l, append(sample.ThrownRanges(&d, 6), l...)...)
	}
}

func TestALeastFormIsAsDescribed(t *testing.T) {
	d := sample.Dice(112)
	for range 3000 {
		l := sample.ThrownRanges(&d, 20)
		least := span.Least(l)
		for i, r := range least {
			if span.Empty(r) {
				t.Errorf("Least(%s) has %s", name(l...), name(r))
			}
			if i > 0 && (least[i-1].Hi == "" || least[i-1].Hi >= r.Lo) {
				t.Errorf("Least(%s) has %s ahead of %s", name(l...), name(least[i-1]), name(r))
			}
		}
		for _, edge := range sample.Edges() {
			for _, s := range []string{edge, edge + "\x00", edge + "q\xff"} {
				if sample.InSet(least, s) != sample.InSet(l, s) {
					t.Errorf("Least(%s) = %s: it is otherwise with %.20q", name(l...), name(least...), s)
				}
			}
		}
		checkRanges(t, "Least of a least form", span.Least(least), least)
	}
}

func TestManyRanges(t *testing.T) {
	const many = 100000
	text := func(i int) string { return fmt.Sprintf("%06d", i) }
	var apart, touching, nested []api.Range
	for i := range many {
		apart = append(apart, from(text(2*i), text(2*i+1)))
		touching = append(touching, from(text(i), text(i+1)))
		nested = append(nested, from(text(i), text(2*many-i)))
	}
	want := slices.Clone(apart)
	mixed := slices.Clone(apart)
	d := sample.Dice(113)
	for i := range mixed {
		j := d.Below(many)
		mixed[i], mixed[j] = mixed[j], mixed[i]
		touching[i], touching[j] = touching[j], touching[i]
		nested[i], nested[j] = nested[j], nested[i]
	}
	checkRanges(t, "Least of many", span.Least(mixed), want)
	checkRanges(t, "Minus of many", span.Minus(mixed, from(text(100), text(199990))), slices.Concat(want[:50], want[99995:]))
	checkRanges(t, "Least of many that touch", span.Least(touching), []api.Range{from(text(0), text(many))})
	checkRanges(t, "Least of many that overlap", span.Least(nested), []api.Range{from(text(0), text(2*many))})
	if !span.Covers(touching, from(text(0), text(many))) || span.Covers(touching, from(text(0), text(many)+"\x00")) || span.Covers(mixed, from(text(2), text(5))) {
		t.Error("Covers of many")
	}
}

// The chapter's examples

func TestExamples(t *testing.T) {
	least := span.Least([]api.Range{from("c", "e"), from("a", "c"), from("x", "b")})
	checkRanges(t, "Least", least, []api.Range{from("a", "e")})
	if span.Covers(least, from("a", "")) || !span.Covers(least, from("d", "d")) {
		t.Error("Covers")
	}
	checkRanges(t, "Minus", span.Minus(least, from("b", "c")), []api.Range{from("a", "b"), from("c", "e")})
}
