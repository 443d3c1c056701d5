package vault_test

import (
	"math"
	"slices"
	"testing"

	"shelfmark/api"
	"shelfmark/disk"
	"shelfmark/sample"
	"shelfmark/vault"
)

// walk is a vault, and a disk to which by hand is done what the vault is to do with its own.
type walk struct {
	t       *testing.T
	dice    sample.Dice
	d, twin *disk.Disk
	v       *vault.Vault
	m       *list
	// What the machine is to have done, and how many of these since it was opened.
	did   []string
	count int
	// How many of them stay whatever comes.
	sure int
}

// begin is a walk whose disk has this room.
func begin(t *testing.T, seed, room int) *walk {
	t.Helper()
	w := &walk{t: t, dice: sample.Dice(seed), d: made(t, room), twin: made(t, room)}
	w.open()
	return w
}

func (w *walk) check(call string, got, want api.Errno) {
	w.t.Helper()
	if got != want {
		w.t.Fatalf("%s = %d, not %d", call, got, want)
	}
}

func (w *walk) open() {
	w.t.Helper()
	m := &list{}
	v, e := vault.Open(w.d, m)
	state, log, want := w.twin.Start()
	w.check("Open", e, want)
	if e != api.OK {
		return
	}
	var did []string
	if len(state) > 0 {
		did, _ = read(string(state))
	}
	for _, cmd := range log {
		did = append(did, string(cmd))
	}
	if len(did) < w.sure || len(did) > len(w.did) || !slices.Equal(did, w.did[:len(did)]) {
		w.t.Fatalf("%q is no beginning of %q, of which %d are sure", did, w.did, w.sure)
	}
	// What was lost is done no more, and what is there behind a crash is sure.
	w.v, w.m, w.did, w.count, w.sure = v, m, did, len(log), len(did)
}

func (w *walk) do(cmd string) {
	w.t.Helper()
	want := w.twin.Append([]byte(cmd))
	answer := ""
	if want == api.OK {
		w.did = append(slices.Clone(w.did), cmd)
		w.count++
		answer = told(w.did)
	}
	s, e := w.v.Do(cmd)
	w.check("Do", e, want)
	if s != answer {
		w.t.Fatalf("Do(%.20q) = %q, not %q", cmd, s, answer)
	}
}

func (w *walk) sync() {
	w.t.Helper()
	e := w.v.Sync()
	w.check("Sync", e, w.twin.Sync())
	if e == api.OK {
		w.sure = len(w.did)
	}
}

func (w *walk) settle() {
	w.t.Helper()
	want := w.twin.Sync()
	if want == api.OK {
		want = w.twin.Checkpoint([]byte(saved(w.did)))
	}
	e := w.v.Settle()
	w.check("Settle", e, want)
	if e == api.OK {
		w.sure = len(w.did)
	}
}

func (w *walk) crash(keep, torn int) {
	w.d.Crash(keep, torn)
	w.twin.Crash(keep, torn)
}

// step does, by dice, one of the things that can be done.
func (w *walk) step() {
	w.t.Helper()
	far := []int{math.MinInt, -1, math.MaxInt}
	switch n := w.dice.Below(100); {
	case n < 50:
		w.do(string(sample.Bytes(w.dice.Below(9))))
	case n < 51:
		w.do(string(make([]byte, maxPayload+w.dice.Below(2))))
	case n < 62:
		w.sync()
	case n < 67:
		w.settle()
	case n < 71:
		room := sample.Pick(&w.dice, append(far, w.d.Used(), w.d.Used()-1, 100, 1000, 4096))
		w.check("Resize", w.d.Resize(room), w.twin.Resize(room))
	case n < 78:
		keep := sample.Pick(&w.dice, append(far, w.dice.Below(6), w.dice.Below(6), w.dice.Below(6)))
		torn := sample.Pick(&w.dice, append(far, w.dice.Below(18), w.dice.Below(18), w.dice.Below(18)))
		w.crash(keep, torn)
	default:
		w.open()
	}
}

// look asks for all that is told.
func (w *walk) look() {
	w.t.Helper()
	checkLook(w.t, w.d, lookAt(w.twin))
	checkVault(w.t, w.v, w.twin.Waiting() == 0, w.count)
	checkDid(w.t, w.m, w.did...)
}

// P8.4, and P1, R1 to R3, R5, R8: whatever comes behind what, each call ends, and is as the chapter says.

func TestLongWalks(t *testing.T) {
	for seed := range 200 {
		w := begin(t, seed, 40+20*seed)
		for range 300 {
			w.step()
			w.look()
			if t.Failed() {
				t.Fatalf("walk %d", seed)
			}
		}
	}
}

func TestTheSameStepsComeToTheSame(t *testing.T) {
	for seed := range 20 {
		one, two := begin(t, seed, 500), begin(t, seed, 500)
		for range 300 {
			one.step()
			two.step()
			checkLook(t, two.d, lookAt(one.d))
			checkDid(t, two.m, one.m.did...)
			checkVault(t, two.v, one.v.Sure(), one.v.Count())
		}
	}
}

// P8.4

// Behind each crash that there can be stand the commands that were sure, and of the next ones as many as the crash kept.
func TestEachCrashLeavesAKnownBeginning(t *testing.T) {
	cmds := []string{"a", "", "bc", "a", "\x00\xff", "d"}
	for settled := range len(cmds) + 1 {
		for sure := settled; sure <= len(cmds); sure++ {
			for keep := range len(cmds) + 2 {
				for _, torn := range []int{0, 1, 7, 8, 9, 99} {
					v, d, _ := fresh(t, 1000)
					do(t, v, cmds[:settled]...)
					checkErr(t, "Settle", v.Settle(), api.OK)
					do(t, v, cmds[settled:sure]...)
					checkErr(t, "Sync", v.Sync(), api.OK)
					do(t, v, cmds[sure:]...)
					d.Crash(keep, torn)
					n, m := min(sure+keep, len(cmds)), &list{}
					v = opened(t, d, m)
					checkDid(t, m, cmds[:n]...)
					checkVault(t, v, true, n-settled)
				}
			}
		}
	}
}

// A machine that was brought back goes on as one that never stopped.
func TestWhatWasLostIsDoneAnew(t *testing.T) {
	steady, d := &list{}, made(t, maxRoom)
	dice := sample.Dice(11)
	v := opened(t, d, &list{})
	sure := 0
	for range 300 {
		for range dice.Below(5) {
			cmd := string(sample.Bytes(dice.Below(30)))
			want := steady.Do(cmd)
			if s, e := v.Do(cmd); s != want || e != api.OK {
				t.Fatalf("Do = %q, %d, not %q", s, e, want)
			}
		}
		switch dice.Below(4) {
		case 0:
			checkErr(t, "Sync", v.Sync(), api.OK)
			sure = len(steady.did)
		case 1:
			checkErr(t, "Settle", v.Settle(), api.OK)
			sure = len(steady.did)
		}
		d.Crash(dice.Below(3), dice.Below(20))
		m := &list{}
		v = opened(t, d, m)
		n := len(m.did)
		if n < sure || n > len(steady.did) {
			t.Fatalf("%d commands stay, of %d, of which %d are sure", n, len(steady.did), sure)
		}
		checkDid(t, m, steady.did[:n]...)
		sure = n
		for _, cmd := range steady.did[n:] {
			do(t, v, cmd)
		}
		checkDid(t, m, steady.did...)
	}
}

// Settle that finds no room is a Sync, so that nothing that was done goes with the power.
func TestBehindASettleWithoutRoomAllStays(t *testing.T) {
	for room := range 120 {
		v, d, m := fresh(t, 1000)
		do(t, v, "a", "\x00\x00\x00\x00\x00\x00")
		used := d.Used()
		if d.Resize(room) != api.OK {
			continue
		}
		want := api.OK
		if beside+len(saved(m.did)) > room {
			want = api.ErrFull
		}
		checkErr(t, "Settle", v.Settle(), want)
		if want != api.OK && d.Used() != used {
			t.Errorf("%d bytes are used, not %d", d.Used(), used)
		}
		d.Crash(0, 0)
		checkReopened(t, d, m.did...)
	}
}
