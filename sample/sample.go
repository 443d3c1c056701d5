// Package sample makes values for the layers' tests, and what comes of them by other means than the layers' own: so the tests lean on nothing of what they test.
package sample

import (
	"cmp"
	"math"
	"strings"

	"shelfmark/api"
)

const (
	octet = 1 << 8  // how many bytes there are
	half  = 1 << 31 // what brings the upper four bytes of an Int to 0 and above
	four  = 1 << 32 // how many rows of four bytes there are
)

// Null is the value Null.
func Null() api.Val { return api.Val{} }

// Int is an Int.
func Int(n int) api.Val { return api.Val{Kind: api.Int, N: n} }

// Text is a Text.
func Text(s string) api.Val { return api.Val{Kind: api.Text, S: s} }

// RowKey is the key of a row of good values (chapter 3).
func RowKey(l []api.Val) string {
	s := ""
	for _, v := range l {
		switch v.Kind {
		case api.Null:
			s += "\x01"
		case api.Int:
			s += "\x02" + bytesOf(v.N>>32+half) + bytesOf(v.N&(four-1))
		case api.Text:
			s += "\x03" + strings.ReplaceAll(v.S, "\x00", "\x00\xff") + "\x00\x00"
		}
	}
	return s
}

// Vals are good values, rising.
func Vals() []api.Val {
	l := []api.Val{Null()}
	for _, n := range []int{math.MinInt, -1, 0, 1, 255, 256, math.MaxInt} {
		l = append(l, Int(n))
	}
	for _, s := range []string{"", "\x00", "\x00\x00", "\x00\xff", "\x01", "a", "a\x00", "a\x00b", "ab", strings.Repeat("b", api.MaxText), "ä", "\xff", "\xff\xff"} {
		l = append(l, Text(s))
	}
	return l
}

// BadVals are values that may not be.
func BadVals() []api.Val {
	return []api.Val{
		{Kind: api.Null, N: 1},
		{Kind: api.Null, S: "a"},
		{Kind: api.Int, S: "a"},
		{Kind: api.Int, N: 7, S: "\x00"},
		{Kind: api.Text, N: 1},
		{Kind: api.Text, N: -1, S: "a"},
		{Kind: api.Text, S: strings.Repeat("a", api.MaxText+1)},
		{Kind: api.Text, S: strings.Repeat("a", 100000)},
		{Kind: -1},
		{Kind: 3},
		{Kind: 257},
		{Kind: 1 << 32},
		{Kind: math.MinInt, N: 1},
		{Kind: math.MaxInt, S: "a"},
	}
}

// Borders are rows that areas can begin and end with: also none, Null, and more values than an index is of.
func Borders() [][]api.Val {
	few := []api.Val{Null(), Int(math.MinInt), Int(2), Int(math.MaxInt), Text(""), Text("\x00"), Text("a"), Text("a\x00"), Text("\xff")}
	l := [][]api.Val{nil, {}}
	for _, v := range few {
		l = append(l, []api.Val{v}, []api.Val{v, Null(), Null()}, []api.Val{v, Text("a"), Int(1), Text("\xff")})
		for _, w := range few {
			l = append(l, []api.Val{v, w})
		}
	}
	return l
}

// Stand is -1, 0 or 1, as a row of good values stands ahead of another, is the same, or behind it (chapter 3).
func Stand(a, b []api.Val) int {
	for i := range min(len(a), len(b)) {
		v, w := a[i], b[i]
		if v == w {
			continue
		}
		if v.Kind != w.Kind {
			return cmp.Compare(v.Kind, w.Kind)
		}
		if v.Kind == api.Int {
			return cmp.Compare(v.N, w.N)
		}
		return cmp.Compare(v.S, w.S)
	}
	return cmp.Compare(len(a), len(b))
}

// LiesIn tells whether a row of good values lies in an area (chapter 4).
func LiesIn(l, low, high []api.Val) bool {
	if Stand(l, low) < 0 {
		return false
	}
	if len(l) > len(high) {
		l = l[:len(high)]
	}
	return Stand(l, high) <= 0
}

// bytesOf is a number below 2^32 in four bytes, the highest first.
func bytesOf(n int) string {
	s := ""
	for range 4 {
		s = string([]byte{byte(n % octet)}) + s
		n /= octet
	}
	return s
}
