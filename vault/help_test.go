package vault_test

import (
	"fmt"
	"slices"
	"testing"

	"shelfmark/api"
	"shelfmark/disk"
	"shelfmark/vault"
)

// look is all that a disk tells of itself.
type look struct {
	on                  bool
	waiting, used, room int
	log                 string
}

func lookAt(d *disk.Disk) look {
	return look{d.On(), d.Waiting(), d.Used(), d.Room(), string(d.Log())}
}

// String tells a look for a fault's text, of a long log only its beginning.
func (l look) String() string {
	return fmt.Sprintf("on %t, %d waiting, %d used of %d, log %.200q", l.on, l.waiting, l.used, l.room, l.log)
}

func checkLook(t *testing.T, d *disk.Disk, want look) {
	t.Helper()
	if got := lookAt(d); got != want {
		t.Errorf("the disk is: %v; not: %v", got, want)
	}
}

func checkErr(t *testing.T, call string, got, want api.Errno) {
	t.Helper()
	if got != want {
		t.Errorf("%s = %d, not %d", call, got, want)
	}
}

// made is a disk that is off.
func made(t *testing.T, room int) *disk.Disk {
	t.Helper()
	d, e := disk.New(room)
	if e != api.OK {
		t.Fatalf("New(%d) = %d", room, e)
	}
	return d
}

// lain is a disk that is on, with a checkpoint and a log, laid down without a vault.
func lain(t *testing.T, room int, state string, log ...string) *disk.Disk {
	t.Helper()
	d := made(t, room)
	_, _, e := d.Start()
	checkErr(t, "Start", e, api.OK)
	checkErr(t, "Checkpoint", d.Checkpoint([]byte(state)), api.OK)
	for _, cmd := range log {
		checkErr(t, "Append", d.Append([]byte(cmd)), api.OK)
	}
	checkErr(t, "Sync", d.Sync(), api.OK)
	return d
}

// off is a disk like that, but off.
func off(t *testing.T, room int, state string, log ...string) *disk.Disk {
	t.Helper()
	d := lain(t, room, state, log...)
	d.Crash(0, 0)
	return d
}

// opened is a disk's vault.
func opened(t *testing.T, d *disk.Disk, m vault.Machine) *vault.Vault {
	t.Helper()
	v, e := vault.Open(d, m)
	if v == nil || e != api.OK {
		t.Fatalf("Open = %v, %d", v, e)
	}
	return v
}

// fresh is a vault of a disk without anything, with its disk and machine.
func fresh(t *testing.T, room int) (*vault.Vault, *disk.Disk, *list) {
	t.Helper()
	d, m := made(t, room), &list{}
	return opened(t, d, m), d, m
}

// do has a vault do commands.
func do(t *testing.T, v *vault.Vault, cmds ...string) {
	t.Helper()
	for _, cmd := range cmds {
		_, e := v.Do(cmd)
		checkErr(t, "Do", e, api.OK)
	}
}

func checkDid(t *testing.T, m *list, want ...string) {
	t.Helper()
	if !slices.Equal(m.did, want) {
		t.Errorf("the machine did %.50q, not %.50q", m.did, want)
	}
}

// checkVault asks a vault for all that it tells of itself.
func checkVault(t *testing.T, v *vault.Vault, sure bool, count int) {
	t.Helper()
	if v.Sure() != sure || v.Count() != count {
		t.Errorf("Sure, Count = %t, %d, not %t, %d", v.Sure(), v.Count(), sure, count)
	}
}

// checkReopened opens the disk with a new machine, which is to do this.
func checkReopened(t *testing.T, d *disk.Disk, want ...string) {
	t.Helper()
	m := &list{}
	opened(t, d, m)
	checkDid(t, m, want...)
}

// checkRefused calls twice what a vault is to refuse, and asks that nothing has changed.
func checkRefused(t *testing.T, v *vault.Vault, d *disk.Disk, m *list, want api.Errno, call func() api.Errno) {
	t.Helper()
	before, sure, count, did := lookAt(d), v.Sure(), v.Count(), slices.Clone(m.did)
	for range 2 {
		if e := call(); e != want {
			t.Errorf("answered %d, not %d", e, want)
		}
		checkLook(t, d, before)
		checkVault(t, v, sure, count)
		checkDid(t, m, did...)
	}
}

// checkNotDone has a vault refuse a command.
func checkNotDone(t *testing.T, v *vault.Vault, d *disk.Disk, m *list, cmd string, want api.Errno) {
	t.Helper()
	checkRefused(t, v, d, m, want, func() api.Errno {
		s, e := v.Do(cmd)
		if s != "" {
			t.Errorf("beside an error: %q", s)
		}
		return e
	})
}
