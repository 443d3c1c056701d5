package atlas_test

import (
	"fmt"
	"math"
	"slices"
	"testing"
	"unsafe"

	"shelfmark/api"
	"shelfmark/atlas"
	"shelfmark/sample"
)

// behind are parts that lie behind a list's length: were they read, the map would be another one.
func behind() []api.Part {
	return []api.Part{part("\xff\xff", 2), part("\xff\xff\xff", 2)}
}

// inRoom is a map with other parts behind the length of its list, and a test that all of them are as they were.
func inRoom(t *testing.T, m api.Map) (api.Map, func()) {
	l, check := sample.InRoom(t, m.Parts, behind()...)
	return mapOf(m.Epoch, l...), check
}

// askAll calls all that takes a map, and tells the answers.
func askAll(m api.Map) string {
	s := fmt.Sprint(atlas.Check(m))
	for _, key := range []string{"", "a", "c", "m", "\xff", "\xff\xff", "\xff\xff\xff"} {
		found, ok := atlas.Find(m, key)
		s += fmt.Sprint(found, ok)
	}
	for i := -1; i <= mostParts; i++ {
		has, ok := atlas.Of(m, i)
		s += fmt.Sprintf("%q %t", has, ok)
	}
	packed, e := atlas.Pack(m)
	return s + fmt.Sprintf("%q %d %v", packed, e, answersOf(m))
}

// answersOf are all the maps that are answered of a map; of some plans none is.
func answersOf(m api.Map) []api.Map {
	var l []api.Map
	add := func(next api.Map, _ api.Errno) { l = append(l, next) }
	for _, s := range []string{"", "c", "m", "\xff", "\xff\xff", long(mostBytes), "a", "ab"} {
		add(atlas.Split(m, s))
		add(atlas.Merge(m, s))
		add(atlas.Move(m, s, 1))
		add(atlas.Move(m, s, 4))
	}
	add(atlas.Unpack(formOf(m)))
	return l
}

func checkAnswers(t *testing.T, got, want []api.Map) {
	t.Helper()
	for i := range want {
		if !same(got[i], want[i]) {
			t.Errorf("answer %d became %s, from %s", i, name(got[i]), name(want[i]))
		}
	}
}

// handedIn are maps of all kinds, right or not.
func handedIn() []api.Map {
	l := rightMaps()
	for _, p := range badParts()[:40] {
		l = append(l, mapOf(1, p...), mapOf(0, p...))
	}
	return l
}

// spoil writes over all the memory that a map's list has.
func spoil(m api.Map) {
	sample.Overwrite(m.Parts, part("spoilt", -1))
}

// P12.5, R4

func TestWhatIsHandedInStays(t *testing.T) {
	for _, inside := range handedIn() {
		m, check := inRoom(t, inside)
		askAll(m)
		check()
	}
}

func TestWhatLiesBehindTheLengthIsNotRead(t *testing.T) {
	for _, inside := range handedIn() {
		m, _ := inRoom(t, inside)
		if got, want := askAll(m), askAll(mapOf(inside.Epoch, slices.Clip(inside.Parts)...)); got != want {
			t.Errorf("%s reads on: %.300s, not %.300s", name(inside), got, want)
		}
	}
}

func TestWhatIsAnsweredIsNew(t *testing.T) {
	for _, inside := range rightMaps() {
		m := mapOf(inside.Epoch, slices.Clone(inside.Parts)...)
		want, kept := answersOf(inside), answersOf(m)
		for _, got := range answersOf(m) {
			spoil(got)
		}
		if !same(m, inside) {
			t.Errorf("%s became %s", name(inside), name(m))
		}
		checkAnswers(t, kept, want)
		// What was handed in may be written over then.
		spoil(m)
		checkAnswers(t, kept, want)
	}
}

func TestStartIsNewEachTime(t *testing.T) {
	one, _ := atlas.Start(3)
	two, _ := atlas.Start(3)
	spoil(one)
	checkMap(t, "Start(3)", two, api.OK, all(1, 3), api.OK)
	three, e := atlas.Start(3)
	checkMap(t, "Start(3)", three, e, all(1, 3), api.OK)
}

// A map that was made of another one goes on by itself.
func TestWhatWasAnsweredMayBeGrown(t *testing.T) {
	m, _ := atlas.Start(1)
	for _, at := range []string{"b", "d", "f"} {
		m, _ = atlas.Split(m, at)
	}
	one, _ := atlas.Merge(m, "d")
	two, _ := atlas.Merge(m, "d")
	_ = append(one.Parts, part("x", 9))
	_ = append(m.Parts[:1], part("y", 9), part("z", 9))
	checkMap(t, "another answer", two, api.OK, mapOf(5, part("", 1), part("b", 1), part("f", 1)), api.OK)
	three, e := atlas.Split(two, "a")
	checkMap(t, "Split", three, e, mapOf(6, part("", 1), part("a", 1), part("b", 1), part("f", 1)), api.OK)
}

func TestTextsOfAnswersAreNew(t *testing.T) {
	b := []byte("bdfm")
	line := unsafe.String(&b[0], len(b))
	text := func(i int) string { return line[i : i+1] }
	m := mapOf(1, part("", 1), part(text(0), 2), part(text(1), 2), part(text(2), 3))
	split, _ := atlas.Split(m, text(3))
	merged, _ := atlas.Merge(m, text(1))
	moved, _ := atlas.Move(m, text(3), 4)
	has, _ := atlas.Of(m, 1)
	last, _ := atlas.Of(m, 3)
	packed, _ := atlas.Pack(m)
	copy(b, "----")
	checkMap(t, "Split", split, api.OK, mapOf(2, part("", 1), part("b", 2), part("d", 2), part("f", 3), part("m", 3)), api.OK)
	checkMap(t, "Merge", merged, api.OK, mapOf(2, part("", 1), part("b", 2), part("f", 3)), api.OK)
	checkMap(t, "Move", moved, api.OK, mapOf(2, part("", 1), part("b", 2), part("d", 2), part("f", 4)), api.OK)
	if has != (api.Range{Lo: "b", Hi: "d"}) || last != (api.Range{Lo: "f"}) || packed != "\x01\x04\x00\x01\x01b\x02\x01d\x02\x01f\x03" {
		t.Errorf("Of: %q, %q, Pack: %x", has, last, packed)
	}
}

func TestTextsOfAnUnpackedMapAreNew(t *testing.T) {
	for _, want := range rightMaps() {
		b := []byte(formOf(want))
		m, e := atlas.Unpack(unsafe.String(&b[0], len(b)))
		sample.Spoil(b)
		checkMap(t, "Unpack", m, e, want, api.OK)
	}
}

func TestTextsOfOneAnswerAreApart(t *testing.T) {
	// What is handed in are beginnings of one text.
	s := "one text"
	m := mapOf(1, part("", 1), part(s[:1], 1), part(s[:3], 1), part(s[:5], 1))
	for _, next := range answersOf(m) {
		var at []*byte
		for _, p := range next.Parts[min(len(next.Parts), 1):] {
			at = append(at, unsafe.StringData(p.Lo))
		}
		for i, p := range at {
			if slices.Contains(at[:i], p) {
				t.Errorf("%s: a text stands twice in one memory", name(next))
			}
		}
	}
	has, _ := atlas.Of(m, 1)
	if unsafe.StringData(has.Lo) == unsafe.StringData(has.Hi) {
		t.Errorf("%q: a text stands twice in one memory", has)
	}
}

// R3

func TestNilAndNoElementsAreTheSame(t *testing.T) {
	for _, epoch := range []int{0, 1, lastEpoch} {
		if one, two := askAll(api.Map{Epoch: epoch}), askAll(mapOf(epoch, []api.Part{}...)); one != two {
			t.Errorf("epoch %d: %s of nil, %s of no part", epoch, one, two)
		}
	}
}

// P1, R1, R8

func TestAnyArgument(t *testing.T) {
	d := sample.Dice(125)
	numbers := append(badNodes(), 1, 2, 3, 4, mostParts, lastEpoch, lastEpoch+1)
	for range 10000 {
		m := thrown(&d)
		if d.Below(4) == 0 {
			m.Epoch = sample.Pick(&d, numbers)
			m.Parts = append(m.Parts, part(string(sample.Bytes(d.Below(200))), sample.Pick(&d, numbers)))
		}
		s, n := string(sample.Bytes(d.Below(120))), sample.Pick(&d, numbers)
		tell := func() string {
			has, ok := atlas.Of(m, n)
			moved, e := atlas.Move(m, s, n)
			split, f := atlas.Split(m, s)
			merged, g := atlas.Merge(m, s)
			start, h := atlas.Start(n)
			unpacked, i := atlas.Unpack(s)
			return fmt.Sprintf("%s %q %t %v %d %v %d %v %d %v %d %v %d", askAll(m), has, ok, moved, e, split, f, merged, g, start, h, unpacked, i)
		}
		if one, two := tell(), tell(); one != two {
			t.Errorf("%s is asked %q, %d: %.300s, then %.300s", name(m), s, n, one, two)
		}
	}
	for _, m := range []api.Map{{Epoch: math.MaxInt}, mapOf(1, make([]api.Part, 1<<20)...), mapOf(1, part(long(1<<22), 1)), mapOf(1, part("", 1), part(long(1<<22), 1))} {
		if e := atlas.Check(m); e != wrongWith(m) {
			t.Errorf("Check(%s) = %d", name(m), e)
		}
		askAll(m)
	}
}
