package atlas_test

import (
	"fmt"
	"testing"

	"shelfmark/api"
	"shelfmark/atlas"
	"shelfmark/sample"
)

// P12.2

func TestSplitEndsThePartThere(t *testing.T) {
	two := mapOf(9, part("", 2), part("m", 3))
	for _, c := range []struct {
		m    api.Map
		at   string
		want api.Map
	}{
		{all(1, 4), "\x00", mapOf(2, part("", 4), part("\x00", 4))},
		{all(1, 1), long(mostBytes), mapOf(2, part("", 1), part(long(mostBytes), 1))},
		{all(lastEpoch-1, 1), "a", mapOf(lastEpoch, part("", 1), part("a", 1))},
		{two, "a", mapOf(10, part("", 2), part("a", 2), part("m", 3))},
		{two, "l\xff\xff", mapOf(10, part("", 2), part("l\xff\xff", 2), part("m", 3))},
		{two, "m\x00", mapOf(10, part("", 2), part("m", 3), part("m\x00", 3))},
		{two, "\xff", mapOf(10, part("", 2), part("m", 3), part("\xff", 3))},
		{mapOf(1, part("", 1), part("b", 2), part("d", 3)), "c", mapOf(2, part("", 1), part("b", 2), part("c", 2), part("d", 3))},
		{mapOf(1, full(1).Parts[:7]...), "\xff", mapOf(2, full(1).Parts...)},
	} {
		got, e := atlas.Split(c.m, c.at)
		checkMap(t, fmt.Sprintf("Split(%s, %.20q)", name(c.m), c.at), got, e, c.want, api.OK)
	}
}

func TestSplitErrors(t *testing.T) {
	two := mapOf(9, part("", 2), part("m", 3))
	last := mapOf(lastEpoch, two.Parts...)
	for _, c := range []struct {
		m  api.Map
		at string
		e  api.Errno
	}{
		{two, "", api.ErrPlan},
		{all(1, 1), "", api.ErrPlan},
		{two, "m", api.ErrPlan},
		{two, long(mostBytes + 1), api.ErrPlan},
		{two, "\xff" + long(mostBytes), api.ErrPlan},
		{two, "z" + long(70000), api.ErrPlan},
		{full(3), "c", api.ErrPlan},
		{full(3), "", api.ErrPlan},
		{full(3), "a", api.ErrPlan},
		{full(3), "\xff\xff", api.ErrPlan},
		// The last epoch is asked behind what is wrong with the plan.
		{last, "a", api.ErrLarge},
		{last, long(mostBytes), api.ErrLarge},
		{last, "", api.ErrPlan},
		{last, "m", api.ErrPlan},
		{last, long(mostBytes + 1), api.ErrPlan},
		{full(lastEpoch), "c", api.ErrPlan},
		// The map is asked ahead of the plan.
		{all(lastEpoch+1, 1), "a", api.ErrArg},
		{all(0, 1), "", api.ErrArg},
		{mapOf(0), long(mostBytes + 1), api.ErrArg},
		{full(-1), "c", api.ErrArg},
		{mapOf(lastEpoch, part("a", 1)), "b", api.ErrPlan},
		{mapOf(1), "b", api.ErrPlan},
	} {
		got, e := atlas.Split(c.m, c.at)
		checkMap(t, fmt.Sprintf("Split(%s, %.20q)", name(c.m), c.at), got, e, api.Map{}, c.e)
	}
}

func TestMergeTakesTheBeginningOut(t *testing.T) {
	for _, c := range []struct {
		m    api.Map
		at   string
		want api.Map
	}{
		{mapOf(1, part("", 4), part("\x00", 4)), "\x00", all(2, 4)},
		{mapOf(lastEpoch-1, part("", 1), part("m", 1)), "m", all(lastEpoch, 1)},
		{mapOf(5, part("", 1), part("b", 1), part("c", 1)), "b", mapOf(6, part("", 1), part("c", 1))},
		{mapOf(5, part("", 1), part("b", 1), part("c", 1)), "c", mapOf(6, part("", 1), part("b", 1))},
		{mapOf(5, part("", 1), part("b", 2), part("c", 2), part("d", 3)), "c", mapOf(6, part("", 1), part("b", 2), part("d", 3))},
		{mapOf(5, part("", 2), part("b", 2), part("c", 1)), "b", mapOf(6, part("", 2), part("c", 1))},
		{mapOf(5, part("", 1), part(long(mostBytes), 1)), long(mostBytes), all(6, 1)},
		{full(1), "\xff", mapOf(2, full(1).Parts[:7]...)},
	} {
		got, e := atlas.Merge(c.m, c.at)
		checkMap(t, fmt.Sprintf("Merge(%s, %.20q)", name(c.m), c.at), got, e, c.want, api.OK)
	}
}

func TestMergeErrors(t *testing.T) {
	like := mapOf(9, part("", 2), part("m", 2), part("p", 3))
	last := mapOf(lastEpoch, like.Parts...)
	for _, c := range []struct {
		m  api.Map
		at string
		e  api.Errno
	}{
		{all(1, 1), "", api.ErrPlan},
		{all(1, 1), "a", api.ErrPlan},
		{like, "", api.ErrPlan},
		{like, "a", api.ErrPlan},
		{like, "m\x00", api.ErrPlan},
		{like, "l\xff", api.ErrPlan},
		{like, "z", api.ErrPlan},
		{like, long(mostBytes + 1), api.ErrPlan},
		{like, long(70000), api.ErrPlan},
		{like, "p", api.ErrPlan},
		{mapOf(9, part("", 1), part("m", 2), part("p", 1)), "p", api.ErrPlan},
		{mapOf(9, part("", 1), part("m", 2), part("p", 2)), "m", api.ErrPlan},
		{last, "m", api.ErrLarge},
		{last, "p", api.ErrPlan},
		{last, "n", api.ErrPlan},
		{last, "", api.ErrPlan},
		{mapOf(lastEpoch+1, like.Parts...), "m", api.ErrArg},
		{mapOf(0, like.Parts...), "", api.ErrArg},
		{mapOf(lastEpoch, part("", 1), part("a", 1), part("a", 1)), "a", api.ErrPlan},
		{mapOf(1), "", api.ErrPlan},
		{mapOf(0), "", api.ErrArg},
	} {
		got, e := atlas.Merge(c.m, c.at)
		checkMap(t, fmt.Sprintf("Merge(%s, %.20q)", name(c.m), c.at), got, e, api.Map{}, c.e)
	}
}

func TestMoveGivesThePartToTheNode(t *testing.T) {
	three := mapOf(9, part("", 2), part("m", 3), part("p", 3))
	for _, c := range []struct {
		m    api.Map
		key  string
		node int
		want api.Map
	}{
		{all(1, 1), "", 4, all(2, 4)},
		{all(1, 4), long(70000), 1, all(2, 1)},
		{all(lastEpoch-1, 1), "a", 2, all(lastEpoch, 2)},
		{three, "", 1, mapOf(10, part("", 1), part("m", 3), part("p", 3))},
		{three, "l\xff", 3, mapOf(10, part("", 3), part("m", 3), part("p", 3))},
		{three, "m", 2, mapOf(10, part("", 2), part("m", 2), part("p", 3))},
		{three, "o", 4, mapOf(10, part("", 2), part("m", 4), part("p", 3))},
		{three, "p", 1, mapOf(10, part("", 2), part("m", 3), part("p", 1))},
		{three, "\xff\xff", 2, mapOf(10, part("", 2), part("m", 3), part("p", 2))},
	} {
		got, e := atlas.Move(c.m, c.key, c.node)
		checkMap(t, fmt.Sprintf("Move(%s, %.20q, %d)", name(c.m), c.key, c.node), got, e, c.want, api.OK)
	}
}

func TestMoveErrors(t *testing.T) {
	two := mapOf(9, part("", 2), part("m", 3))
	last := mapOf(lastEpoch, two.Parts...)
	type move struct {
		m    api.Map
		key  string
		node int
		e    api.Errno
	}
	l := []move{
		{two, "", 2, api.ErrPlan},
		{two, "a", 2, api.ErrPlan},
		{two, "m", 3, api.ErrPlan},
		{two, "z" + long(mostBytes), 3, api.ErrPlan},
		{all(1, 1), "k", 1, api.ErrPlan},
		{last, "a", 1, api.ErrLarge},
		{last, "m", 2, api.ErrLarge},
		{last, "m", 3, api.ErrPlan},
		{mapOf(lastEpoch+1, two.Parts...), "m", 2, api.ErrArg},
		{mapOf(0, two.Parts...), "m", 3, api.ErrArg},
		{mapOf(lastEpoch, part("", 1), part("b", 5)), "a", 2, api.ErrPlan},
		{mapOf(1), "a", 2, api.ErrPlan},
		{mapOf(0), "a", 2, api.ErrArg},
	}
	for _, node := range badNodes() {
		l = append(l, move{two, "a", node, api.ErrPlan}, move{last, "z", node, api.ErrPlan}, move{mapOf(0, two.Parts...), "a", node, api.ErrArg})
	}
	for _, c := range l {
		got, e := atlas.Move(c.m, c.key, c.node)
		checkMap(t, fmt.Sprintf("Move(%s, %.20q, %d)", name(c.m), c.key, c.node), got, e, api.Map{}, c.e)
	}
}

// nodes are all that are one, and such as aren't.
func nodes() []int {
	return append(badNodes(), 1, 2, 3, 4)
}

func TestAllMapsGoOn(t *testing.T) {
	for _, m := range rightMaps() {
		for _, s := range texts(m) {
			checkSplit(t, m, s)
			checkMerge(t, m, s)
			for _, node := range nodes() {
				checkMove(t, m, s, node)
			}
		}
	}
}

func TestWrongMapsDoNotGoOn(t *testing.T) {
	for _, f := range wrongMaps() {
		for _, s := range []string{"", "a", "b", "k", long(mostBytes + 1)} {
			got, e := atlas.Split(f.m, s)
			checkMap(t, "Split of "+name(f.m), got, e, api.Map{}, f.e)
			got, e = atlas.Merge(f.m, s)
			checkMap(t, "Merge of "+name(f.m), got, e, api.Map{}, f.e)
			for _, node := range []int{-1, 0, 1, 2, 4, 5} {
				got, e = atlas.Move(f.m, s, node)
				checkMap(t, "Move of "+name(f.m), got, e, api.Map{}, f.e)
			}
		}
	}
}

func TestMapsThatDiceThrowGoOn(t *testing.T) {
	d := sample.Dice(12)
	for range 20000 {
		m := thrown(&d)
		checkErr(t, "Check of "+name(m), atlas.Check(m), wrongWith(m))
		checkSplit(t, m, thrownText(&d))
		checkMerge(t, m, thrownText(&d))
		checkMove(t, m, thrownText(&d), d.Below(mostNodes+2))
	}
}

// A walk goes on from map to map, whatever is refused on the way.
func TestWalks(t *testing.T) {
	for seed := range 200 {
		d := sample.Dice(seed)
		m, e := atlas.Start(1 + d.Below(mostNodes))
		checkErr(t, "Start", e, api.OK)
		epoch := 1
		for range 200 {
			s, node := thrownText(&d), 1+d.Below(mostNodes)
			var next, want api.Map
			var e, wantErr api.Errno
			switch d.Below(4) {
			case 0, 1:
				next, e = atlas.Split(m, s)
				want, wantErr = splitOf(t, m, s)
			case 2:
				s = sample.Pick(&d, m.Parts).Lo
				next, e = atlas.Merge(m, s)
				want, wantErr = mergeOf(t, m, s)
			default:
				next, e = atlas.Move(m, s, node)
				want, wantErr = moveOf(t, m, s, node)
			}
			checkMap(t, fmt.Sprintf("a step from %s at %.20q", name(m), s), next, e, want, wantErr)
			if e != api.OK {
				continue
			}
			epoch++
			if m = next; m.Epoch != epoch {
				t.Fatalf("%s isn't of epoch %d", name(m), epoch)
			}
		}
	}
}
