package span_test

import (
	"fmt"
	"slices"
	"strings"
	"testing"

	"shelfmark/api"
	"shelfmark/sample"
	"shelfmark/span"
)

func from(lo, hi string) api.Range {
	return api.Range{Lo: lo, Hi: hi}
}

// inRange tells whether a range has a text.
func inRange(r api.Range, s string) bool {
	return strings.Compare(s, r.Lo) >= 0 && (len(r.Hi) == 0 || strings.Compare(s, r.Hi) < 0)
}

// inSet tells whether a set has a text.
func inSet(l []api.Range, s string) bool {
	for _, r := range l {
		if inRange(r, s) {
			return true
		}
	}
	return false
}

// marks are the texts, rising, at which a set of such ranges can begin or end: from each to the next one nothing changes.
func marks(l ...api.Range) []string {
	all := []string{""}
	for _, r := range l {
		all = append(all, r.Lo, r.Hi)
	}
	slices.Sort(all)
	return slices.Compact(all)
}

// formOf is the least form of the texts of which has tells so, if nothing changes but at the marks.
func formOf(marks []string, has func(s string) bool) []api.Range {
	var l []api.Range
	within := false
	for _, s := range marks {
		if has(s) == within {
			continue
		}
		within = !within
		if within {
			l = append(l, from(s, ""))
		} else {
			l[len(l)-1].Hi = s
		}
	}
	return l
}

// leastOf is what Least has to answer.
func leastOf(l []api.Range) []api.Range {
	return formOf(marks(l...), func(s string) bool { return inSet(l, s) })
}

// minusOf is what Minus has to answer.
func minusOf(l []api.Range, r api.Range) []api.Range {
	return formOf(marks(append(slices.Clone(l), r)...), func(s string) bool { return inSet(l, s) && !inRange(r, s) })
}

// coversOf is what Covers has to answer.
func coversOf(l []api.Range, r api.Range) bool {
	for _, s := range marks(append(slices.Clone(l), r)...) {
		if inRange(r, s) && !inSet(l, s) {
			return false
		}
	}
	return true
}

// meetOf is the least form of what Meet has to answer: one range, or none.
func meetOf(a, b api.Range) []api.Range {
	return formOf(marks(a, b), func(s string) bool { return inRange(a, s) && inRange(b, s) })
}

// ranges are all that begin and end with some texts.
func ranges(ends ...string) []api.Range {
	var l []api.Range
	for _, lo := range ends {
		for _, hi := range ends {
			l = append(l, from(lo, hi))
		}
	}
	return l
}

// empties are ranges that have no text.
func empties() []api.Range {
	return []api.Range{
		from("a", "a"), from("b", "a"), from("a\x00", "a"), from("ab", "a"), from("\x00", "\x00"), from("\x00\x00", "\x00"), from("\xff", "\x00"),
		from("a", "Z"), from("\x80", "\x7f"), from("ä", "z"), from("\xff\xff", "\xff"), from(strings.Repeat("k", 300), strings.Repeat("k", 300)),
	}
}

// thrown are up to most ranges that dice throw.
func thrown(d *sample.Dice, most int) []api.Range {
	var l []api.Range
	for range d.Below(most + 1) {
		l = append(l, thrownRange(d))
	}
	return l
}

func thrownRange(d *sample.Dice) api.Range {
	text := func() string { return sample.Pick(d, sample.Edges()) + sample.Pick(d, []string{"", "", "\x00", "q"}) }
	return from(text(), text())
}

func checkRanges(t *testing.T, call string, got, want []api.Range) {
	t.Helper()
	if !slices.Equal(got, want) {
		t.Errorf("%s = %s, not %s", call, name(got...), name(want...))
	}
}

// checkMeet asks Meet for what it has to answer, both ways round.
func checkMeet(t *testing.T, a, b api.Range) {
	t.Helper()
	var want api.Range
	l := meetOf(a, b)
	if len(l) > 0 {
		want = l[0]
	}
	for _, x := range [][2]api.Range{{a, b}, {b, a}} {
		if got, ok := span.Meet(x[0], x[1]); got != want || ok != (len(l) > 0) {
			t.Errorf("Meet(%s) = %s, %t, not %s, %t", name(x[:]...), name(got), ok, name(want), len(l) > 0)
		}
	}
}

// checkSet asks Least, Covers and Minus for what they have to answer of a set and some ranges.
func checkSet(t *testing.T, l []api.Range, others ...api.Range) {
	t.Helper()
	checkRanges(t, "Least("+name(l...)+")", span.Least(l), leastOf(l))
	for _, r := range others {
		if got := span.Covers(l, r); got != coversOf(l, r) {
			t.Errorf("Covers(%s, %s) = %t", name(l...), name(r), got)
		}
		checkRanges(t, "Minus("+name(l...)+", "+name(r)+")", span.Minus(l, r), minusOf(l, r))
	}
}

// name is how ranges are told in a fault's text: how many there are, and the first ones.
func name(l ...api.Range) string {
	s := fmt.Sprintf("%d:", len(l))
	for _, r := range l[:min(len(l), 6)] {
		s += fmt.Sprintf(" (%.20q to %.20q)", r.Lo, r.Hi)
	}
	return s
}
