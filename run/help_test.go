package run_test

import (
	"encoding/binary"
	"fmt"
	"maps"
	"math"
	"slices"
	"strings"
	"testing"

	"shelfmark/api"
	"shelfmark/pack"
	"shelfmark/sample"
)

func put(key, val string) api.Change {
	return api.Change{Key: key, Val: val}
}

func gone(key string) api.Change {
	return api.Change{Key: key, Gone: true}
}

// few are changes of few keys, of which some are beginnings of others; one is Gone and has a Val.
func few() []api.Change {
	return []api.Change{
		put("", "0"), gone(""),
		put("a", "1"), put("a", ""), gone("a"), {Key: "a", Val: "2", Gone: true},
		put("a\x00", "3"), put("b", "4"), gone("\xff"),
	}
}

// isRun tells whether that is a run: it holds each two changes against each other.
func isRun(l []api.Change) bool {
	for i, c := range l {
		if c.Gone && len(c.Val) > 0 {
			return false
		}
		for _, d := range l[i+1:] {
			if strings.Compare(c.Key, d.Key) >= 0 {
				return false
			}
		}
	}
	return true
}

// smallRuns are all runs of up to most of the few changes.
func smallRuns(most int) [][]api.Change {
	return slices.DeleteFunc(sample.Lists(most, few()...), func(l []api.Change) bool { return !isRun(l) })
}

// many is a run of 300 changes, of which each seventh is Gone.
func many() []api.Change {
	var l []api.Change
	for i := range 300 {
		c := put(fmt.Sprintf("%05d", i), strings.Repeat("v", i%5))
		if i%7 == 0 {
			c = gone(c.Key)
		}
		l = append(l, c)
	}
	return l
}

// bytewise is a run of keys that begin with each byte.
func bytewise() []api.Change {
	var l []api.Change
	for c := range 256 {
		l = append(l, put(string([]byte{byte(c)}), "b"), gone(string([]byte{byte(c), 0})))
	}
	return l
}

// runs are some of all kinds: all small ones, and such as have many changes, long texts, keys of any bytes.
func runs() [][]api.Change {
	return append(smallRuns(4),
		many()[:127], many()[:128], many(), bytewise(),
		[]api.Change{put(strings.Repeat("k", 127), strings.Repeat("v", 128)), put(strings.Repeat("k", 128), strings.Repeat("v", 127)), gone(strings.Repeat("k", 70000))},
		[]api.Change{put("\x00", string(sample.Bytes(20000))), put("Z", ""), put("a", "\x00"), put("z", "\xff"), put("ä", "ä")},
	)
}

// notRuns are lists that have all kinds of faults, at their beginnings, amid them and at their ends.
func notRuns() [][]api.Change {
	odd := api.Change{Key: "d", Val: "x", Gone: true}
	l := [][]api.Change{
		{odd}, {put("a", ""), odd}, {odd, put("e", "")}, {put("a", ""), odd, put("e", "")},
		{put("a", "1"), put("a", "1")}, {put("a", "1"), put("a", "2")}, {gone("a"), gone("a")}, {put("a", "1"), gone("a")}, {gone("a"), put("a", "1")},
		{put("", ""), put("", "")}, {gone(""), put("", "")},
		{put("b", ""), put("a", "")}, {put("a", ""), put("", "")}, {put("a\x00", ""), put("a", "")}, {put("ab", ""), put("a", "")},
		{put("\x80", ""), put("\x7f", "")}, {put("\xff", ""), put("\x00", "")}, {put("a", ""), put("Z", "")}, {put("ä", ""), put("z", "")},
		{put("a", ""), put("c", ""), put("b", "")}, {put("b", ""), put("c", ""), put("a", "")}, {put("a", ""), put("b", ""), put("a", "")}, {put("a", ""), put("b", ""), put("b", "")},
		{put("c", ""), put("a", ""), put("b", "")}, {put("a", ""), put("c", ""), put("b", ""), put("d", "")},
	}
	for _, long := range [][]api.Change{many(), bytewise()} {
		swapped, twice, told := slices.Clone(long), slices.Clone(long), slices.Clone(long)
		last := len(long) - 1
		swapped[last], swapped[last-1] = swapped[last-1], swapped[last]
		twice[last] = twice[last-1]
		told[last] = api.Change{Key: told[last].Key, Val: "x", Gone: true}
		l = append(l, swapped, twice, told)
	}
	return l
}

// tidy are a table's changes as a run.
func tidy(table map[string]api.Change) []api.Change {
	var l []api.Change
	for _, key := range slices.Sorted(maps.Keys(table)) {
		l = append(l, table[key])
	}
	return l
}

// madeOf is the run that Make has to make of some changes, by a table.
func madeOf(l []api.Change) []api.Change {
	table := map[string]api.Change{}
	for _, c := range l {
		if c.Gone {
			c.Val = ""
		}
		table[c.Key] = c
	}
	return tidy(table)
}

// mergedOf is the run that Merge has to make of runs, by a table.
func mergedOf(l ...[]api.Change) []api.Change {
	table := map[string]api.Change{}
	for _, r := range slices.Backward(l) {
		for _, c := range r {
			table[c.Key] = c
		}
	}
	return tidy(table)
}

// formOf is a list of changes as bytes, whether it is a run or not, by the library.
func formOf(l []api.Change) []byte {
	b := binary.AppendUvarint(nil, uint64(len(l)))
	for _, c := range l {
		b = append(binary.AppendUvarint(b, uint64(len(c.Key))), c.Key...)
		if c.Gone {
			b = append(b, 1)
		} else {
			b = append(b, 0)
		}
		b = append(binary.AppendUvarint(b, uint64(len(c.Val))), c.Val...)
	}
	return b
}

// unpackError is what Unpack has to find wrong with bytes, as the chapter asks for it.
func unpackError(b []byte) api.Errno {
	count, at, e := pack.GetNum(b, 0)
	var l []api.Change
	for i := 0; e == api.OK && i < count; i++ {
		var c api.Change
		var flag int
		if c.Key, at, e = pack.GetText(b, at, math.MaxInt); e != api.OK {
			break
		}
		if flag, at, e = pack.GetNum(b, at); e == api.OK && flag > 1 {
			e = api.ErrForm
		}
		if e != api.OK {
			break
		}
		c.Gone = flag == 1
		c.Val, at, e = pack.GetText(b, at, math.MaxInt)
		l = append(l, c)
	}
	if e == api.OK && (at < len(b) || !isRun(l)) {
		return api.ErrForm
	}
	return e
}

// thrown are up to most changes that dice throw, of few keys.
func thrown(d *sample.Dice, most int) []api.Change {
	var l []api.Change
	for range d.Below(most + 1) {
		c := put(sample.Pick(d, []string{"", "a", "b", "ab", "a\x00", "c\xff", "zz"})+sample.Pick(d, []string{"", "\x00", "q", "\xff"}), string(sample.Bytes(d.Below(5))))
		if c.Gone = d.Below(3) == 0; c.Gone && d.Below(2) == 0 {
			c.Val = ""
		}
		l = append(l, c)
	}
	return l
}

// checkChanges asks a call for these changes.
func checkChanges(t *testing.T, call string, got, want []api.Change) {
	t.Helper()
	if !slices.Equal(got, want) {
		t.Errorf("%s = %s, not %s", call, name(got), name(want))
	}
}

func checkErr(t *testing.T, call string, got, want api.Errno) {
	t.Helper()
	if got != want {
		t.Errorf("%s: the error %d, not %d", call, got, want)
	}
}

// name is how lists are told in a fault's text: how many changes each has, and the first ones.
func name(lists ...[]api.Change) string {
	s := ""
	for _, l := range lists[:min(len(lists), 4)] {
		s += fmt.Sprintf("[%d:", len(l))
		for _, c := range l[:min(len(l), 6)] {
			s += fmt.Sprintf(" {%.20q %.20q %t}", c.Key, c.Val, c.Gone)
		}
		s += "]"
	}
	return s
}

// formClaims are bytes that claim so many changes, and have none.
func formClaims(count int) []byte {
	return binary.AppendUvarint(nil, uint64(count))
}
