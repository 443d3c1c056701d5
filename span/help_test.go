package span_test

import (
	"fmt"
	"slices"
	"testing"

	"shelfmark/api"
	"shelfmark/sample"
	"shelfmark/span"
)

var from = sample.Range

func checkRanges(t *testing.T, call string, got, want []api.Range) {
	t.Helper()
	if !slices.Equal(got, want) {
		t.Errorf("%s = %s, not %s", call, name(got...), name(want...))
	}
}

// checkMeet asks Meet for what it has to answer, both ways round.
func checkMeet(t *testing.T, a, b api.Range) {
	t.Helper()
	var want api.Range
	l := sample.Meet(a, b)
	if len(l) > 0 {
		want = l[0]
	}
	for _, x := range [][2]api.Range{{a, b}, {b, a}} {
		if got, ok := span.Meet(x[0], x[1]); got != want || ok != (len(l) > 0) {
			t.Errorf("Meet(%s) = %s, %t, not %s, %t", name(x[:]...), name(got), ok, name(want), len(l) > 0)
		}
	}
}

// checkSet asks Least, Covers and Minus for what they have to answer of a set and some ranges.
func checkSet(t *testing.T, l []api.Range, others ...api.Range) {
	t.Helper()
	checkRanges(t, "Least("+name(l...)+")", span.Least(l), sample.Least(l))
	for _, r := range others {
		if got := span.Covers(l, r); got != sample.Covers(l, r) {
			t.Errorf("Covers(%s, %s) = %t", name(l...), name(r), got)
		}
		checkRanges(t, "Minus("+name(l...)+", "+name(r)+")", span.Minus(l, r), sample.Minus(l, r))
	}
}

// name is how ranges are told in a fault's text: how many there are, and the first ones.
func name(l ...api.Range) string {
	s := fmt.Sprintf("%d:", len(l))
	for _, r := range l[:min(len(l), 6)] {
		s += fmt.Sprintf(" (%.20q to %.20q)", r.Lo, r.Hi)
	}
	return s
}
