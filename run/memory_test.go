package run_test

import (
	"bytes"
	"fmt"
	"math"
	"slices"
	"testing"
	"unsafe"

	"shelfmark/api"
	"shelfmark/run"
	"shelfmark/sample"
)

// behind are changes that lie behind a list's length: were they read, the list would be no run, or another one.
func behind() []api.Change {
	return []api.Change{put("a", "behind"), {Key: "b", Val: "behind", Gone: true}, put("zzz", "behind")}
}

// askAll calls all that takes a list.
func askAll(l []api.Change) {
	run.Right(l)
	run.Make(l)
	run.Merge(l)
	run.Merge(l, nil, l)
	run.Find(l, "a")
	run.Slice(l, api.Range{Lo: "a"})
	run.Live(l)
	run.Pack(l)
}

// spoil writes over all the memory that a list of changes has.
func spoil(l []api.Change) {
	sample.Overwrite(l, api.Change{Key: "spoilt", Val: "spoilt", Gone: true})
}

// P9.5, R4

func TestWhatIsHandedInStays(t *testing.T) {
	for _, inside := range slices.Concat(sample.Lists(3, few()...), runs(), notRuns()) {
		l, check := sample.InRoom(t, inside, behind()...)
		askAll(l)
		check()
	}
	for _, inside := range append(runs(), notRuns()...) {
		for _, tail := range []string{"", "left"} {
			b, check := sample.InRoom(t, append(formOf(inside), tail...), []byte("behind")...)
			run.Unpack(b)
			check()
		}
	}
}

func TestTheListOfRunsStays(t *testing.T) {
	all := [][]api.Change{{put("c", "1")}, nil, {gone("a"), put("b", "2")}, {put("a", "3")}, {put("z", "z"), put("a", "behind")}}
	before := make([][]api.Change, len(all))
	for i, l := range all {
		before[i] = slices.Clone(l)
	}
	got, e := run.Merge(all[:4]...)
	checkErr(t, "Merge", e, api.OK)
	checkChanges(t, "Merge", got, []api.Change{gone("a"), put("b", "2"), put("c", "1")})
	if !slices.EqualFunc(all, before, slices.Equal) {
		t.Errorf("the runs became %s", name(all...))
	}
}

func TestWhatLiesBehindTheLengthIsNotRead(t *testing.T) {
	for _, inside := range smallRuns(3) {
		l, _ := sample.InRoom(t, inside, behind()...)
		if !run.Right(l) {
			t.Errorf("Right of %s reads on", name(inside))
		}
		checkChanges(t, "Make", run.Make(l), inside)
		checkMerge(t, l)
		checkMerge(t, l, l)
		if _, ok := run.Find(l, "zzz"); ok {
			t.Errorf("Find in %s reads on", name(inside))
		}
		checkChanges(t, "Slice", run.Slice(l, api.Range{}), inside)
		if b, e := run.Pack(l); !bytes.Equal(b, formOf(inside)) || e != api.OK {
			t.Errorf("Pack of %s reads on: %x, %d", name(inside), b, e)
		}
		b, _ := sample.InRoom(t, formOf(inside), 0, 0, 0)
		checkUnpack(t, b, inside, api.OK)
		if len(inside) > 0 {
			checkUnpack(t, b[:len(b)-1], nil, api.ErrShort)
		}
	}
}

// answersOf are all the lists of changes that are answered of a run.
func answersOf(l []api.Change) [][]api.Change {
	one, _ := run.Merge(l)
	two, _ := run.Merge(nil, l, nil)
	three, _ := run.Merge(l, l)
	return [][]api.Change{run.Make(l), one, two, three, run.Slice(l, api.Range{}), run.Slice(l, api.Range{Hi: "\xff\xff"})}
}

func TestWhatIsAnsweredIsNew(t *testing.T) {
	for _, want := range smallRuns(3) {
		l := slices.Clone(want)
		others := answersOf(l)
		for _, got := range answersOf(l) {
			spoil(got)
		}
		live := run.Live(l)
		clear(live[:cap(live)])
		checkChanges(t, "what was handed in", l, want)
		for _, other := range others {
			checkChanges(t, "another answer", other, want)
		}
		// What was handed in may be written over then.
		spoil(l)
		for _, other := range others {
			checkChanges(t, "an answer", other, want)
		}
		b := formOf(want)
		got, _ := run.Unpack(b)
		again, _ := run.Unpack(b)
		spoil(again)
		clear(b)
		checkChanges(t, "what was unpacked", got, want)
		one, _ := run.Pack(want)
		two, _ := run.Pack(want)
		sample.Spoil(one)
		if !bytes.Equal(two, formOf(want)) {
			t.Errorf("another Pack of %s became %x", name(want), two)
		}
	}
}

func TestTextsOfAnswersAreNew(t *testing.T) {
	b := []byte("keyval")
	s := unsafe.String(&b[0], len(b))
	l := []api.Change{put(s[:3], s[3:])}
	answers := answersOf(l)
	found, _ := run.Find(l, "key")
	live := run.Live(l)
	copy(b, "others")
	for i, got := range append(answers, []api.Change{found}) {
		checkChanges(t, fmt.Sprintf("the text of answer %d", i), got, []api.Change{put("key", "val")})
	}
	if !slices.Equal(live, []api.Pair{{Key: "key", Val: "val"}}) {
		t.Errorf("the texts of Live became %q", live)
	}
}

// R3

func TestNilAndNoElementsAreTheSame(t *testing.T) {
	none := []api.Change{}
	if run.Right(nil) != run.Right(none) {
		t.Error("Right tells nil from no change")
	}
	for _, l := range [][]api.Change{nil, none} {
		for _, got := range answersOf(l) {
			checkChanges(t, "of no change", got, nil)
		}
		if got, ok := run.Find(l, ""); got != (api.Change{}) || ok {
			t.Errorf("Find in nothing = %#v, %t", got, ok)
		}
		if len(run.Live(l)) != 0 {
			t.Error("something lives in nothing")
		}
	}
	checkUnpack(t, nil, nil, api.ErrShort)
	checkUnpack(t, []byte{}, nil, api.ErrShort)
}

// P1, R1, R8

func TestAnyArgument(t *testing.T) {
	d := sample.Dice(99)
	texts := []string{"", "\x00", "a", "ab", "\xff", "\xff\xff", string(sample.Bytes(300))}
	for range 5000 {
		l, other := thrown(&d, 8), thrown(&d, 8)
		r := api.Range{Lo: sample.Pick(&d, texts), Hi: sample.Pick(&d, texts)}
		key := sample.Pick(&d, texts)
		tell := func() string {
			merged, e := run.Merge(l, other)
			found, ok := run.Find(l, key)
			packed, f := run.Pack(l)
			return fmt.Sprintf("%t %#v %#v %d %#v %t %#v %q %x %d", run.Right(l), run.Make(l), merged, e, found, ok, run.Slice(l, r), run.Live(l), packed, f)
		}
		if one, two := tell(), tell(); one != two {
			t.Errorf("%s is asked %q and %q: %s, then %s", name(l), r, key, one, two)
		}
	}
	for n := range 2000 {
		b := sample.Bytes(n % 60)
		for i := range b {
			if d.Below(2) == 0 {
				b[i] = byte(d.Below(4))
			}
		}
		checkUnpackAsAsked(t, b)
	}
	for _, count := range []int{1, 127, 128, 1 << 20, 1 << 40, math.MaxInt} {
		// What the bytes claim isn't taken as there.
		checkUnpack(t, formClaims(count), nil, api.ErrShort)
	}
}
