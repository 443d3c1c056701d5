package sample

import (
	"slices"
	"strings"

	"shelfmark/api"
)

// Range is the texts from one on and below another one.
func Range(lo, hi string) api.Range {
	return api.Range{Lo: lo, Hi: hi}
}

// Ranges are all that begin and end with some texts.
func Ranges(ends ...string) []api.Range {
	var l []api.Range
	for _, lo := range ends {
		for _, hi := range ends {
			l = append(l, Range(lo, hi))
		}
	}
	return l
}

// EmptyRanges are ranges that have no text.
func EmptyRanges() []api.Range {
	return []api.Range{
		Range("a", "a"), Range("b", "a"), Range("a\x00", "a"), Range("ab", "a"), Range("\x00", "\x00"), Range("\x00\x00", "\x00"), Range("\xff", "\x00"),
		Range("a", "Z"), Range("\x80", "\x7f"), Range("ä", "z"), Range("\xff\xff", "\xff"), Range(strings.Repeat("k", 300), strings.Repeat("k", 300)),
	}
}

// ThrownRanges are up to most ranges that dice throw.
func ThrownRanges(d *Dice, most int) []api.Range {
	var l []api.Range
	for range d.Below(most + 1) {
		l = append(l, ThrownRange(d))
	}
	return l
}

// ThrownRange is a range that dice throw: it may be empty.
func ThrownRange(d *Dice) api.Range {
	text := func() string { return Pick(d, Edges()) + Pick(d, []string{"", "", "\x00", "q"}) }
	return Range(text(), text())
}

// InRange tells whether a range has a text.
func InRange(r api.Range, s string) bool {
	return strings.Compare(s, r.Lo) >= 0 && (len(r.Hi) == 0 || strings.Compare(s, r.Hi) < 0)
}

// InSet tells whether a set has a text.
func InSet(l []api.Range, s string) bool {
	for _, r := range l {
		if InRange(r, s) {
			return true
		}
	}
	return false
}

// Least is a set's least form (chapter 11).
func Least(l []api.Range) []api.Range {
	return formOf(marks(l...), func(s string) bool { return InSet(l, s) })
}

// Minus is the least form of a set without what a range has.
func Minus(l []api.Range, r api.Range) []api.Range {
	return formOf(marks(append(slices.Clone(l), r)...), func(s string) bool { return InSet(l, s) && !InRange(r, s) })
}

// Meet is the least form of what two ranges have in common: one range, or none.
func Meet(a, b api.Range) []api.Range {
	return formOf(marks(a, b), func(s string) bool { return InRange(a, s) && InRange(b, s) })
}

// Covers tells whether a set has all that a range has.
func Covers(l []api.Range, r api.Range) bool {
	for _, s := range marks(append(slices.Clone(l), r)...) {
		if InRange(r, s) && !InSet(l, s) {
			return false
		}
	}
	return true
}

// marks are the texts, rising, at which a set of such ranges can begin or end: from each to the next one nothing changes.
func marks(l ...api.Range) []string {
	all := []string{""}
	for _, r := range l {
		all = append(all, r.Lo, r.Hi)
	}
	slices.Sort(all)
	return slices.Compact(all)
}

// formOf is the least form of the texts of which has tells so, if nothing changes but at the marks.
func formOf(marks []string, has func(s string) bool) []api.Range {
	var l []api.Range
	within := false
	for _, s := range marks {
		if has(s) == within {
			continue
		}
		within = !within
		if within {
			l = append(l, Range(s, ""))
		} else {
			l[len(l)-1].Hi = s
		}
	}
	return l
}
