package sample_test

import (
	"encoding/binary"
	"math"
	"strings"
	"testing"

	"shelfmark/sample"
)

// formOf is what NumForm has to answer, by the library: of a number below 0 what the same steps make of its 64 bits.
func formOf(n int) string {
	return string(binary.AppendUvarint(nil, uint64(n)))
}

// numbers are such as are at the edges of a form's bytes, and some that dice throw.
func numbers() []int {
	l := []int{0, 1, 2, 300, math.MaxInt - 1, math.MaxInt, math.MinInt, math.MinInt + 1, -1, -2, -300}
	for bits := range 63 {
		l = append(l, 1<<bits-1, 1<<bits, 1<<bits+1, -1<<bits)
	}
	d := sample.Dice(1)
	for bits := 1; bits < 63; bits++ {
		for range 50 {
			l = append(l, (d.Below(1<<31)<<31|d.Below(1<<31))>>(62-bits))
		}
	}
	return l
}

func TestNumFormIsTheLibrarys(t *testing.T) {
	for _, n := range numbers() {
		if got, want := sample.NumForm(n), formOf(n); got != want {
			t.Errorf("NumForm(%d) = %x, not %x", n, got, want)
		}
	}
}

// The chapter's examples, and the edges of the first bytes.
func TestNumFormOfSomeNumbers(t *testing.T) {
	for _, c := range []struct {
		n    int
		want string
	}{
		{0, "\x00"}, {1, "\x01"}, {127, "\x7f"}, {128, "\x80\x01"}, {300, "\xac\x02"}, {16383, "\xff\x7f"}, {16384, "\x80\x80\x01"},
		{math.MaxInt, "\xff\xff\xff\xff\xff\xff\xff\xff\x7f"},
	} {
		if got := sample.NumForm(c.n); got != c.want {
			t.Errorf("NumForm(%d) = %x, not %x", c.n, got, c.want)
		}
	}
}

func TestTextFormAndTextsForm(t *testing.T) {
	long := strings.Repeat("k", 300)
	for _, c := range []struct {
		l    []string
		want string
	}{
		{nil, "\x00"}, {[]string{""}, "\x01\x00"}, {[]string{"ab"}, "\x01\x02ab"}, {[]string{"a", "", "b"}, "\x03\x01a\x00\x01b"},
		{[]string{long, "\x00"}, "\x02\xac\x02" + long + "\x01\x00"},
		{make([]string, 200), "\xc8\x01" + strings.Repeat("\x00", 200)},
	} {
		if got := sample.TextsForm(c.l...); got != c.want {
			t.Errorf("TextsForm of %d texts = %x, not %x", len(c.l), got, c.want)
		}
		if len(c.l) == 1 && "\x01"+sample.TextForm(c.l[0]) != c.want {
			t.Errorf("TextForm(%q) = %x", c.l[0], sample.TextForm(c.l[0]))
		}
	}
}
