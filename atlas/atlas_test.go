package atlas_test

import (
	"fmt"
	"math"
	"testing"

	"shelfmark/api"
	"shelfmark/atlas"
	"shelfmark/sample"
)

// P12.1

func TestCheckOfRightMaps(t *testing.T) {
	for _, m := range rightMaps() {
		checkErr(t, "Check of "+name(m), atlas.Check(m), api.OK)
	}
}

func TestCheckOfOtherMaps(t *testing.T) {
	for _, f := range wrongMaps() {
		checkErr(t, "Check of "+name(f.m), atlas.Check(f.m), f.e)
	}
}

func TestCheckOfAllSmallMaps(t *testing.T) {
	few := []api.Part{part("", 1), part("", 5), part("a", 4), part("a", 0), part("a\x00", 2), part("b", 3), part(long(mostBytes), 1), part(long(mostBytes+1), 1)}
	for _, l := range sample.Lists(4, few...) {
		for _, epoch := range []int{0, 1, lastEpoch, lastEpoch + 1} {
			m := mapOf(epoch, l...)
			checkErr(t, "Check of "+name(m), atlas.Check(m), wrongWith(m))
		}
	}
}

func TestStartIsTheFirstMapOfANode(t *testing.T) {
	for node := 1; node <= mostNodes; node++ {
		m, e := atlas.Start(node)
		checkMap(t, fmt.Sprintf("Start(%d)", node), m, e, all(1, node), api.OK)
		checkErr(t, "Check of a first map", atlas.Check(m), api.OK)
	}
	for _, node := range badNodes() {
		m, e := atlas.Start(node)
		checkMap(t, fmt.Sprintf("Start(%d)", node), m, e, api.Map{}, api.ErrArg)
	}
}

func checkFind(t *testing.T, m api.Map, key string, want int, ok bool) {
	t.Helper()
	if got, is := atlas.Find(m, key); got != want || is != ok {
		t.Errorf("Find(%s, %.20q) = %d, %t, not %d, %t", name(m), key, got, is, want, ok)
	}
}

func TestFindIsThePlaceOfThePart(t *testing.T) {
	m := mapOf(7, part("", 2), part("b", 2), part("b\x00", 1), part("ba", 4), part("ä", 2))
	for _, c := range []struct {
		key  string
		want int
	}{
		{"", 0}, {"\x00", 0}, {"a", 0}, {"a\xff\xff", 0}, {"B", 0},
		{"b", 1},
		{"b\x00", 2}, {"b\x00\x00", 2}, {"b\x01", 2}, {"bZ", 2}, {"b`\xff", 2},
		{"ba", 3}, {"ba\x00", 3}, {"bb", 3}, {"c", 3}, {"z", 3}, {"\x7f", 3}, {"\xc3", 3}, {"\xc3\x00", 3}, {"k" + long(70000), 3},
		{"ä", 4}, {"ä\x00", 4}, {"\xff", 4}, {"\xff\xff\xff", 4}, {"\xff" + long(70000), 4},
	} {
		checkFind(t, m, c.key, c.want, true)
		checkFind(t, all(1, 3), c.key, 0, true)
	}
}

func TestFindOfAllMaps(t *testing.T) {
	for _, m := range rightMaps() {
		for _, s := range texts(m) {
			checkFind(t, m, s, placeOf(t, m, s), true)
		}
	}
	for _, f := range wrongMaps() {
		for _, s := range []string{"", "a", "b", "\xff"} {
			checkFind(t, f.m, s, 0, false)
		}
	}
}

func checkOf(t *testing.T, m api.Map, i int, want api.Range, ok bool) {
	t.Helper()
	if got, is := atlas.Of(m, i); got != want || is != ok {
		t.Errorf("Of(%s, %d) = %.20q, %t, not %.20q, %t", name(m), i, got, is, want, ok)
	}
}

func TestOfIsWhatAPartHas(t *testing.T) {
	m := mapOf(7, part("", 2), part("b", 2), part("b\x00", 1), part("ä", 2))
	for i, want := range []api.Range{{Hi: "b"}, {Lo: "b", Hi: "b\x00"}, {Lo: "b\x00", Hi: "ä"}, {Lo: "ä"}} {
		checkOf(t, m, i, want, true)
	}
	checkOf(t, all(1, 3), 0, api.Range{}, true)
}

func TestOfOfAllMaps(t *testing.T) {
	for _, m := range rightMaps() {
		for i, p := range m.Parts {
			want := api.Range{Lo: p.Lo}
			if i < len(m.Parts)-1 {
				want.Hi = m.Parts[i+1].Lo
			}
			checkOf(t, m, i, want, true)
		}
		for _, i := range []int{-1, -2, math.MinInt, len(m.Parts), len(m.Parts) + 1, math.MaxInt, 1 << 32} {
			checkOf(t, m, i, api.Range{}, false)
		}
	}
	for _, f := range wrongMaps() {
		for _, i := range []int{-1, 0, 1, 8} {
			checkOf(t, f.m, i, api.Range{}, false)
		}
	}
}

// P12.3

func TestEachTextIsInJustOnePart(t *testing.T) {
	for _, m := range rightMaps() {
		for _, s := range texts(m) {
			found, _ := atlas.Find(m, s)
			for i := range m.Parts {
				r, _ := atlas.Of(m, i)
				if in := s >= r.Lo && (r.Hi == "" || s < r.Hi); in != (i == found) {
					t.Errorf("%s: %.20q is found at %d; in part %d: %t", name(m), s, found, i, in)
				}
			}
		}
	}
}

// checkOwners tells of texts whose node is another one than a rule says.
func checkOwners(t *testing.T, call string, m, next api.Map, want func(s string) int) {
	t.Helper()
	for _, s := range append(texts(m), texts(next)...) {
		if got := nodeOf(t, next, s); got != want(s) {
			t.Errorf("%s of %s: %.20q is node %d's, not node %d's", call, name(m), s, got, want(s))
		}
	}
}

func TestWhoHasATextStays(t *testing.T) {
	for _, m := range rightMaps() {
		stays := func(s string) int { return nodeOf(t, m, s) }
		for _, at := range texts(m) {
			if next, e := atlas.Split(m, at); e == api.OK {
				checkOwners(t, "Split", m, next, stays)
			}
			if next, e := atlas.Merge(m, at); e == api.OK {
				checkOwners(t, "Merge", m, next, stays)
			}
		}
	}
}

func TestMoveIsOfThatPartAlone(t *testing.T) {
	for _, m := range rightMaps() {
		for _, key := range texts(m) {
			part := placeOf(t, m, key)
			for node := 1; node <= mostNodes; node++ {
				next, e := atlas.Move(m, key, node)
				if e != api.OK {
					continue
				}
				checkOwners(t, "Move", m, next, func(s string) int {
					if hasText(m, part, s) {
						return node
					}
					return nodeOf(t, m, s)
				})
			}
		}
	}
}

func TestMergeBehindSplitComesToTheSameParts(t *testing.T) {
	done := 0
	for _, m := range rightMaps() {
		for _, at := range texts(m) {
			split, e := atlas.Split(m, at)
			if e != api.OK || m.Epoch > lastEpoch-2 {
				continue
			}
			done++
			merged, e := atlas.Merge(split, at)
			checkMap(t, fmt.Sprintf("Merge behind Split(%s, %.20q)", name(m), at), merged, e, mapOf(m.Epoch+2, m.Parts...), api.OK)
		}
	}
	if done == 0 {
		t.Error("nothing was split")
	}
}

// The chapter's examples

func TestExamples(t *testing.T) {
	m, e := atlas.Start(2)
	checkMap(t, "Start", m, e, mapOf(1, part("", 2)), api.OK)
	if s, e := atlas.Pack(m); s != "\x01\x01\x00\x02" || e != api.OK {
		t.Errorf("Pack = %x, %d", s, e)
	}
	m, e = atlas.Split(m, "m")
	checkMap(t, "Split", m, e, mapOf(2, part("", 2), part("m", 2)), api.OK)
	m, e = atlas.Move(m, "z", 3)
	checkMap(t, "Move", m, e, mapOf(3, part("", 2), part("m", 3)), api.OK)
	m, e = atlas.Merge(m, "m")
	checkMap(t, "Merge", m, e, api.Map{}, api.ErrPlan)
}
