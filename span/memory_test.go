package span_test

import (
	"fmt"
	"slices"
	"strings"
	"testing"
	"unsafe"

	"shelfmark/api"
	"shelfmark/sample"
	"shelfmark/span"
)

// behind are ranges that lie behind a list's length: were they read, the set would be another one.
func behind() []api.Range {
	return []api.Range{from("a", "b"), {}, from("z", "y")}
}

// lists are lists of ranges of all kinds: some are sorted and some aren't, some have ranges without texts, some are a least form.
func lists() [][]api.Range {
	d := sample.Dice(114)
	l := append(sample.Lists(2, sample.Ranges("", "a", "b")...), sample.EmptyRanges(), []api.Range{from("m", "n"), from("c", "d"), from("d", "c"), from("d", "e")})
	for range 200 {
		l = append(l, sample.ThrownRanges(&d, 30))
	}
	return l
}

func others() []api.Range {
	return append(sample.EmptyRanges(), api.Range{}, from("a", "b"), from("", "b"), from("a\x00", ""))
}

// answersOf are all the lists that are answered of a set.
func answersOf(l []api.Range) [][]api.Range {
	answers := [][]api.Range{span.Least(l)}
	for _, r := range others() {
		answers = append(answers, span.Minus(l, r))
	}
	return answers
}

// P11.3, R4

func TestWhatIsHandedInStays(t *testing.T) {
	for _, inside := range lists() {
		l, check := sample.InRoom(t, inside, behind()...)
		answersOf(l)
		for _, r := range others() {
			span.Covers(l, r)
		}
		check()
	}
}

func TestWhatLiesBehindTheLengthIsNotRead(t *testing.T) {
	for _, inside := range lists() {
		l, _ := sample.InRoom(t, inside, behind()...)
		checkSet(t, l, others()...)
	}
}

func TestWhatIsAnsweredIsNew(t *testing.T) {
	spoilt := from("spoilt", "spoilt")
	for _, inside := range lists() {
		l := slices.Clone(inside)
		want := answersOf(inside)
		kept := answersOf(l)
		for _, got := range answersOf(l) {
			sample.Overwrite(got, spoilt)
		}
		checkRanges(t, "what was handed in", l, inside)
		// What was handed in may be written over then.
		sample.Overwrite(l, spoilt)
		for i, got := range kept {
			checkRanges(t, fmt.Sprintf("answer %d of %s", i, name(inside...)), got, want[i])
		}
	}
}

func TestTextsOfAnswersAreNew(t *testing.T) {
	b := []byte("abcdefgh")
	texts := unsafe.String(&b[0], len(b))
	text := func(i int) string { return texts[i : i+1] }
	l := []api.Range{from(text(4), text(6)), from(text(0), text(2)), from(text(1), text(3)), from(text(7), "")}
	least, minus, same := span.Least(l), span.Minus(l, from(text(2), text(5))), span.Minus(l, from(text(2), text(2)))
	met, ok := span.Meet(l[1], l[2])
	copy(b, strings.Repeat("-", len(b)))
	checkRanges(t, "Least", least, []api.Range{from("a", "d"), from("e", "g"), from("h", "")})
	checkRanges(t, "Minus", minus, []api.Range{from("a", "c"), from("f", "g"), from("h", "")})
	checkRanges(t, "Minus of nothing", same, []api.Range{from("a", "d"), from("e", "g"), from("h", "")})
	if met != from("b", "c") || !ok {
		t.Errorf("Meet = %s, %t", name(met), ok)
	}
}

func TestTextsOfOneAnswerAreApart(t *testing.T) {
	// What is handed in are beginnings of one text.
	s := "one text"
	for _, l := range [][]api.Range{{from(s[:1], s[:2]), from(s[:3], s[:4]), from(s[:5], s)}, {from("", s[:2]), from(s[:3], "")}} {
		for _, answer := range answersOf(l) {
			var at []*byte
			for _, r := range answer {
				for _, s := range []string{r.Lo, r.Hi} {
					if s != "" {
						at = append(at, unsafe.StringData(s))
					}
				}
			}
			for i, p := range at {
				if slices.Contains(at[:i], p) {
					t.Errorf("%s: a text stands twice in one memory", name(answer...))
				}
			}
		}
	}
}

// R3

func TestNilAndNoElementsAreTheSame(t *testing.T) {
	for _, l := range [][]api.Range{nil, {}} {
		for _, got := range answersOf(l) {
			checkRanges(t, "of no range", got, nil)
		}
		if span.Covers(l, api.Range{}) || !span.Covers(l, from("a", "a")) {
			t.Errorf("Covers of no range: %t, %t", span.Covers(l, api.Range{}), span.Covers(l, from("a", "a")))
		}
	}
}

// P1, R1, R8

func TestAnyArgument(t *testing.T) {
	d := sample.Dice(115)
	texts := append(sample.Edges(), string(sample.Bytes(300)), strings.Repeat("k", 1<<16))
	for range 4000 {
		l, r := sample.ThrownRanges(&d, 25), sample.ThrownRange(&d)
		s, other := sample.Pick(&d, texts), from(sample.Pick(&d, texts), sample.Pick(&d, texts))
		l = append(l, other)
		tell := func() string {
			met, ok := span.Meet(r, other)
			return fmt.Sprintf("%t %t %q %t %q %t %q", span.Empty(r), span.Has(r, s), met, ok, span.Least(l), span.Covers(l, r), span.Minus(l, r))
		}
		if one, two := tell(), tell(); one != two {
			t.Errorf("%s is asked %s: %.300s, then %.300s", name(l...), name(r), one, two)
		}
		checkSet(t, l, r, other)
		checkMeet(t, r, other)
	}
}
