package vault_test

import (
	"slices"
	"strings"
	"testing"

	"shelfmark/api"
	"shelfmark/disk"
	"shelfmark/frame"
	"shelfmark/sample"
	"shelfmark/vault"
)

const (
	maxRoom    = 4194304
	maxPayload = 65536
	// How many bytes of a frame stand ahead of its payload, and how many a checkpoint takes beside its own.
	ahead, beside = 8, 8
)

// odd are commands of all kinds: without bytes, with any bytes, the same again, of the most bytes.
func odd() []string {
	return []string{"a", "", "", "bc", "a", "\x00", "\xff\xfe", "ä\n\"", "\x00\x00\x00\x00\x21\x44\xdf\x1c", "list", string(sample.Bytes(maxPayload)), "z"}
}

// P8.1

func TestOpenOfADiskWithoutAnything(t *testing.T) {
	for _, room := range []int{0, 1, 100, maxRoom} {
		d, m := made(t, room), &list{did: []string{"its own"}}
		checkVault(t, opened(t, d, m), true, 0)
		checkLook(t, d, look{on: true, room: room})
		// An empty checkpoint isn't loaded, though the machine would refuse it.
		checkDid(t, m, "its own")
		if len(m.calls) != 0 {
			t.Errorf("the machine was called: %q", m.calls)
		}
	}
}

func TestOpenDoesTheLogsCommandsInTheirOrder(t *testing.T) {
	for _, log := range [][]string{{""}, {"a"}, {"b", "a", "c", "b", "b"}, {"", "", ""}, odd()} {
		d, m := off(t, maxRoom, "", log...), &list{}
		want := lookAt(d)
		want.on = true
		v := opened(t, d, m)
		checkDid(t, m, log...)
		checkVault(t, v, true, len(log))
		// What was done again isn't laid into the log again.
		checkLook(t, d, want)
	}
}

func TestOpenLoadsTheCheckpointAheadOfTheLog(t *testing.T) {
	for _, state := range [][]string{nil, {""}, {"a"}, {"b", "a"}, odd()} {
		for _, log := range [][]string{nil, {""}, {"c"}, {"d", "c", "d"}, odd()} {
			d, m := off(t, maxRoom, saved(state), log...), &list{did: []string{"its own"}}
			v := opened(t, d, m)
			// The checkpoint's state stands in the place of the machine's own.
			checkDid(t, m, slices.Concat(state, log)...)
			checkVault(t, v, true, len(log))
			calls := []string{"load " + saved(state)}
			for _, cmd := range log {
				calls = append(calls, "do "+cmd)
			}
			if !slices.Equal(m.calls, calls) {
				t.Errorf("the machine was called: %.50q, not %.50q", m.calls, calls)
			}
		}
	}
}

func TestOpenLeavesOutWhatIsTornOrTurned(t *testing.T) {
	turned := off(t, 1000, saved([]string{"a"}), "bc", "d", "e")
	// In the second of the three frames, behind one of ten bytes.
	turned.Flip(10+ahead, 1)
	torn := lain(t, 1000, saved([]string{"a"}), "bc")
	for _, cmd := range []string{"d", "e"} {
		checkErr(t, "Append", torn.Append([]byte(cmd)), api.OK)
	}
	torn.Crash(0, 5)
	for _, d := range []*disk.Disk{turned, torn} {
		m := &list{}
		checkVault(t, opened(t, d, m), true, 1)
		checkDid(t, m, "a", "bc")
		framed, _ := frame.Wrap([]byte("bc"))
		checkLook(t, d, look{on: true, used: len(saved(m.did[:1])) + beside + len(framed), room: 1000, log: string(framed)})
	}
}

func TestOpenOfADiskThatIsOnIsRefused(t *testing.T) {
	bad := lain(t, 1000, "no list", "a")
	waiting := lain(t, 1000, "", "a")
	checkErr(t, "Append", waiting.Append([]byte("bc")), api.OK)
	for _, d := range []*disk.Disk{lain(t, 100, ""), lain(t, 1000, saved([]string{"a"}), "bc"), waiting, bad} {
		before := lookAt(d)
		for range 2 {
			m := &list{}
			// ErrThere is ahead of ErrForm.
			if v, e := vault.Open(d, m); v != nil || e != api.ErrThere {
				t.Errorf("Open = %v, %d", v, e)
			}
			if len(m.calls) != 0 {
				t.Errorf("the machine was called: %q", m.calls)
			}
			checkLook(t, d, before)
		}
	}
}

func TestARefusedOpenDoesNoHarmToTheVaultThatIsThere(t *testing.T) {
	v, d, m := fresh(t, 1000)
	do(t, v, "a", "b")
	if _, e := vault.Open(d, &list{}); e != api.ErrThere {
		t.Errorf("Open = %d", e)
	}
	checkVault(t, v, false, 2)
	do(t, v, "c")
	checkErr(t, "Sync", v.Sync(), api.OK)
	checkDid(t, m, "a", "b", "c")
	d.Crash(0, 0)
	checkReopened(t, d, "a", "b", "c")
}

func TestOpenOfACheckpointThatTheMachineDoesNotLoad(t *testing.T) {
	for _, state := range []string{"no list", "\x00", " ", "list\n", "list\nunquoted", strings.Repeat("x", 500)} {
		d, m := off(t, 1000, state, "a", "bc"), &list{did: []string{"its own"}}
		want := lookAt(d)
		if v, e := vault.Open(d, m); v != nil || e != api.ErrForm {
			t.Errorf("Open of %.20q = %v, %d", state, v, e)
		}
		// No command is done then, and the disk stays on.
		if !slices.Equal(m.calls, []string{"load " + state}) {
			t.Errorf("the machine was called: %.50q", m.calls)
		}
		checkDid(t, m, "its own")
		want.on = true
		checkLook(t, d, want)
		if v, e := vault.Open(d, m); v != nil || e != api.ErrThere {
			t.Errorf("Open again = %v, %d", v, e)
		}
	}
}

func TestWhatOneMachineRefusesAnotherOneMayLoad(t *testing.T) {
	d := off(t, 1000, "=st", "a", "te")
	if v, e := vault.Open(d, &list{}); v != nil || e != api.ErrForm {
		t.Errorf("Open = %v, %d", v, e)
	}
	d.Crash(0, 0)
	m := &row{}
	checkVault(t, opened(t, d, m), true, 2)
	if m.state != "state" {
		t.Errorf("the machine's state is %q", m.state)
	}
}

// P8.2

func TestDoTellsWhatTheMachineTells(t *testing.T) {
	v, d, m := fresh(t, maxRoom)
	var all []string
	log := ""
	for i, cmd := range odd() {
		all = append(all, cmd)
		s, e := v.Do(cmd)
		if s != told(all) || e != api.OK {
			t.Errorf("Do(%.20q) = %.90q, %d", cmd, s, e)
		}
		framed, _ := frame.Wrap([]byte(cmd))
		log += string(framed)
		checkDid(t, m, all...)
		checkVault(t, v, false, i+1)
		checkLook(t, d, look{on: true, waiting: i + 1, used: len(log), room: maxRoom, log: log})
	}
}

func TestACommandIsInTheLogAheadOfBeingDone(t *testing.T) {
	v, d, m := fresh(t, maxRoom)
	m.during = func(cmd string) {
		l, _ := frame.Scan(d.Log())
		if len(l) != len(m.did)+1 || string(l[len(m.did)]) != cmd {
			t.Errorf("while %.20q is done, the log has %d commands", cmd, len(l))
		}
		if v.Sure() {
			t.Errorf("%.20q is sure while it is done", cmd)
		}
	}
	do(t, v, odd()...)
	checkDid(t, m, odd()...)
}

func TestThePowerGoesWhileACommandIsDone(t *testing.T) {
	for keep, want := range [][]string{{"a"}, {"a", "b"}, {"a", "b", "c"}} {
		v, d, m := fresh(t, 1000)
		do(t, v, "a")
		checkErr(t, "Sync", v.Sync(), api.OK)
		do(t, v, "b")
		m.during = func(string) { d.Crash(keep, 3) }
		if s, e := v.Do("c"); s != told([]string{"a", "b", "c"}) || e != api.OK {
			t.Errorf("Do = %q, %d", s, e)
		}
		checkReopened(t, d, want...)
	}
}

func TestACommandThatIsTooLargeIsNotDone(t *testing.T) {
	v, d, m := fresh(t, maxRoom)
	do(t, v, "a")
	for _, n := range []int{maxPayload + 1, maxPayload + 2, 2 * maxPayload, maxRoom + 1} {
		checkNotDone(t, v, d, m, strings.Repeat("x", n), api.ErrLarge)
	}
	do(t, v, strings.Repeat("x", maxPayload))
	// ErrLarge is ahead of ErrFull, as the disk has it.
	small, d, m := fresh(t, 0)
	checkNotDone(t, small, d, m, strings.Repeat("x", maxPayload+1), api.ErrLarge)
	checkNotDone(t, small, d, m, strings.Repeat("x", maxPayload), api.ErrFull)
}

func TestACommandWithoutRoomIsNotDone(t *testing.T) {
	v, d, m := fresh(t, 7)
	checkNotDone(t, v, d, m, "", api.ErrFull)
	checkErr(t, "Resize", d.Resize(27), api.OK)
	do(t, v, "a")
	checkNotDone(t, v, d, m, "elevenbytes", api.ErrFull)
	do(t, v, "ten bytes!")
	checkNotDone(t, v, d, m, "", api.ErrFull)
	checkErr(t, "Sync", v.Sync(), api.OK)
	// To be sure makes no room.
	checkNotDone(t, v, d, m, "", api.ErrFull)
	checkErr(t, "Resize", d.Resize(100), api.OK)
	do(t, v, "b")
	checkErr(t, "Sync", v.Sync(), api.OK)
	d.Crash(0, 0)
	checkReopened(t, d, "a", "ten bytes!", "b")
}

func TestAVaultWithoutPowerDoesNothing(t *testing.T) {
	for keep := range 3 {
		v, d, m := fresh(t, 1000)
		do(t, v, "a")
		checkErr(t, "Settle", v.Settle(), api.OK)
		do(t, v, "b", "c")
		d.Crash(keep, 3)
		// ErrDown is ahead of ErrLarge and ErrFull.
		for _, cmd := range []string{"", "d", strings.Repeat("x", 1000), strings.Repeat("x", maxPayload+1)} {
			checkNotDone(t, v, d, m, cmd, api.ErrDown)
		}
		checkRefused(t, v, d, m, api.ErrDown, v.Sync)
		checkRefused(t, v, d, m, api.ErrDown, v.Settle)
		checkVault(t, v, true, 3)
		checkReopened(t, d, []string{"a", "b", "c"}[:keep+1]...)
	}
}

func TestSyncMakesSureWhatWasDone(t *testing.T) {
	v, d, m := fresh(t, maxRoom)
	for i, cmd := range odd() {
		do(t, v, cmd)
		want := lookAt(d)
		want.waiting = 0
		for range 2 {
			checkErr(t, "Sync", v.Sync(), api.OK)
			// The log stays: nothing stands in its place yet.
			checkLook(t, d, want)
			checkVault(t, v, true, i+1)
			checkDid(t, m, odd()[:i+1]...)
		}
	}
	d.Crash(0, 0)
	checkReopened(t, d, odd()...)
}

func TestSettlePutsTheStateInTheLogsPlace(t *testing.T) {
	v, d, m := fresh(t, maxRoom)
	for i, cmd := range odd() {
		do(t, v, cmd)
		for range 2 {
			checkErr(t, "Settle", v.Settle(), api.OK)
			checkLook(t, d, look{on: true, used: beside + len(saved(m.did)), room: maxRoom})
			checkVault(t, v, true, i+1)
			checkDid(t, m, odd()[:i+1]...)
		}
	}
	d.Crash(0, 0)
	state, log, e := d.Start()
	if string(state) != saved(odd()) || len(log) != 0 || e != api.OK {
		t.Errorf("Start = %.50q, %.50q, %d", state, log, e)
	}
}

func TestSettleOfAMachineThatDidNothing(t *testing.T) {
	v, d, m := fresh(t, 12)
	checkErr(t, "Settle", v.Settle(), api.OK)
	checkLook(t, d, look{on: true, used: 12, room: 12})
	checkVault(t, v, true, 0)
	checkDid(t, m)
	d.Crash(0, 0)
	checkReopened(t, d)
}

func TestSettleTakesWhatSyncTookForSure(t *testing.T) {
	v, d, _ := fresh(t, 1000)
	do(t, v, "a")
	checkErr(t, "Sync", v.Sync(), api.OK)
	do(t, v, "b")
	checkErr(t, "Settle", v.Settle(), api.OK)
	do(t, v, "c")
	checkErr(t, "Sync", v.Sync(), api.OK)
	do(t, v, "d")
	d.Crash(0, 0)
	m := &list{}
	checkVault(t, opened(t, d, m), true, 1)
	checkDid(t, m, "a", "b", "c")
}

func TestSettleWithoutRoomIsASyncAlone(t *testing.T) {
	// "list", a line of the command with its quotes, and 8 beside it, but a frame of the command alone.
	v, d, m := fresh(t, 17)
	do(t, v, "c")
	want := lookAt(d)
	checkErr(t, "Resize", d.Resize(15), api.OK)
	want.waiting, want.room = 0, 15
	for range 2 {
		checkErr(t, "Settle", v.Settle(), api.ErrFull)
		checkLook(t, d, want)
		checkVault(t, v, true, 1)
		checkDid(t, m, "c")
	}
	d.Crash(0, 0)
	checkLook(t, d, look{used: want.used, room: 15, log: want.log})
	m = &list{}
	v = opened(t, d, m)
	checkDid(t, m, "c")
	checkErr(t, "Resize", d.Resize(16), api.OK)
	checkErr(t, "Settle", v.Settle(), api.OK)
	checkLook(t, d, look{on: true, used: 16, room: 16})
	d.Crash(0, 0)
	checkReopened(t, d, "c")
}

func TestSettleWithoutRoomLeavesTheOldCheckpoint(t *testing.T) {
	v, d, m := fresh(t, 1000)
	do(t, v, "a")
	checkErr(t, "Settle", v.Settle(), api.OK)
	// Takes more of a checkpoint, in which each of its bytes stands as four, than of a log.
	long := strings.Repeat("\x00", 50)
	do(t, v, "b", long)
	checkErr(t, "Resize", d.Resize(d.Used()), api.OK)
	want := lookAt(d)
	want.waiting = 0
	checkErr(t, "Settle", v.Settle(), api.ErrFull)
	checkLook(t, d, want)
	checkVault(t, v, true, 3)
	checkDid(t, m, "a", "b", long)
	d.Crash(0, 0)
	checkReopened(t, d, "a", "b", long)
}

func TestSettleMakesRoomForMore(t *testing.T) {
	// Each command is empty, and takes less of a checkpoint than of a log.
	v, d, m := fresh(t, 40)
	do(t, v, "", "", "", "", "")
	checkNotDone(t, v, d, m, "", api.ErrFull)
	checkErr(t, "Settle", v.Settle(), api.OK)
	do(t, v, "")
	d.Crash(1, 0)
	checkReopened(t, d, "", "", "", "", "", "")
}

// P8.3

func TestSureWhileNoFrameWaits(t *testing.T) {
	v, d, m := fresh(t, 1000)
	checkVault(t, v, true, 0)
	do(t, v, "a")
	checkVault(t, v, false, 1)
	do(t, v, "", "b")
	checkVault(t, v, false, 3)
	checkErr(t, "Sync", v.Sync(), api.OK)
	checkVault(t, v, true, 3)
	do(t, v, "c")
	checkVault(t, v, false, 4)
	checkErr(t, "Settle", v.Settle(), api.OK)
	checkVault(t, v, true, 4)
	do(t, v, "d")
	// What is refused changes neither.
	checkNotDone(t, v, d, m, strings.Repeat("x", 1000), api.ErrFull)
	checkVault(t, v, false, 5)
	// The disk is asked, whoever laid a frame there, and whoever synced it.
	checkErr(t, "Sync", d.Sync(), api.OK)
	checkVault(t, v, true, 5)
	checkErr(t, "Append", d.Append([]byte("e")), api.OK)
	checkVault(t, v, false, 5)
	checkDid(t, m, "a", "", "b", "c", "d")
}

func TestCountIsOfOneOpening(t *testing.T) {
	d := made(t, 1000)
	var want []string
	for i, keep := range []int{0, 1, 2, 3, 0} {
		m := &list{}
		v := opened(t, d, m)
		checkDid(t, m, want...)
		checkVault(t, v, true, len(want))
		do(t, v, "a", "b", string(rune('c'+i)))
		checkVault(t, v, false, len(want)+3)
		d.Crash(keep, 5)
		want = append(want, []string{"a", "b", string(rune('c' + i))}[:keep]...)
	}
	v := opened(t, d, &list{})
	checkErr(t, "Settle", v.Settle(), api.OK)
	checkVault(t, v, true, len(want))
	d.Crash(0, 0)
	checkVault(t, opened(t, d, &list{}), true, 0)
}

// R4, R8

func TestVaultsShareNothing(t *testing.T) {
	one, d, m := fresh(t, 1000)
	two, other, n := fresh(t, 1000)
	do(t, one, "a", "b")
	do(t, two, "c")
	checkVault(t, one, false, 2)
	checkVault(t, two, false, 1)
	checkErr(t, "Sync", one.Sync(), api.OK)
	checkVault(t, two, false, 1)
	checkErr(t, "Settle", two.Settle(), api.OK)
	d.Crash(0, 0)
	do(t, two, "d")
	checkDid(t, m, "a", "b")
	checkDid(t, n, "c", "d")
	checkErr(t, "Sync", two.Sync(), api.OK)
	other.Crash(0, 0)
	checkReopened(t, d, "a", "b")
	checkReopened(t, other, "c", "d")
}

func TestWhatWasToldStays(t *testing.T) {
	v, d, m := fresh(t, 1000)
	one, _ := v.Do("a")
	two, _ := v.Do("b")
	checkErr(t, "Settle", v.Settle(), api.OK)
	state := saved([]string{"a", "b"})
	do(t, v, "c")
	for at := range len(d.Log()) {
		d.Flip(at, 0xff)
	}
	d.Crash(9, 0)
	n := &list{}
	do(t, opened(t, d, n), "d")
	if one != told([]string{"a"}) || two != told([]string{"a", "b"}) || n.calls[0] != "load "+state {
		t.Errorf("what was told became %q, %q, %q", one, two, n.calls)
	}
	checkDid(t, m, "a", "b", "c")
	checkDid(t, n, "a", "b", "d")
}

// The chapter's examples.

func TestTheChaptersExamples(t *testing.T) {
	d := made(t, 100)
	v := opened(t, d, &row{})
	do(t, v, "a")
	checkErr(t, "Sync", v.Sync(), api.OK)
	do(t, v, "b")
	d.Crash(0, 0)
	m := &row{}
	v = opened(t, d, m)
	if m.state != "a" {
		t.Errorf("the state is %q, not a", m.state)
	}
	checkVault(t, v, true, 1)
	do(t, v, "b")
	checkErr(t, "Settle", v.Settle(), api.OK)
	d.Crash(0, 0)
	m = &row{}
	v = opened(t, d, m)
	if m.state != "ab" {
		t.Errorf("the state is %q, not ab", m.state)
	}
	checkVault(t, v, true, 0)
}
