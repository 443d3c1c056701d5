package disk_test

import (
	"bytes"
	"encoding/binary"
	"fmt"
	"hash/crc32"
	"math"
	"slices"
	"strings"
	"testing"

	"shelfmark/api"
	"shelfmark/disk"
	"shelfmark/sample"
)

const (
	maxRoom    = 4194304
	maxPayload = 65536
	// How many bytes of a frame stand ahead of its payload, and how many a checkpoint that has any takes beside its own.
	ahead, beside = 8, 8
)

// frameOf is a payload's frame, by the library, so that it leans on nothing of the layers.
func frameOf(payload string) string {
	told := binary.BigEndian.AppendUint32(nil, uint32(len(payload)))
	sum := crc32.Update(crc32.ChecksumIEEE(told), crc32.IEEETable, []byte(payload))
	return string(binary.BigEndian.AppendUint32(told, sum)) + payload
}

// frames are the frames of payloads, one behind the other.
func frames(payloads ...string) string {
	s := ""
	for _, p := range payloads {
		s += frameOf(p)
	}
	return s
}

// look is all that a disk tells of itself.
type look struct {
	on                  bool
	waiting, used, room int
	log                 string
}

// lookAt asks a disk for all that it tells of itself.
func lookAt(d *disk.Disk) look {
	return look{d.On(), d.Waiting(), d.Used(), d.Room(), string(d.Log())}
}

// String tells a look for a fault's text, of a long log only its beginning.
func (l look) String() string {
	return fmt.Sprintf("on %t, %d waiting, %d used of %d, log %.200q", l.on, l.waiting, l.used, l.room, l.log)
}

func checkLook(t *testing.T, d *disk.Disk, want look) {
	t.Helper()
	if got := lookAt(d); got != want {
		t.Errorf("the disk is: %v; not: %v", got, want)
	}
}

// made is a disk that is off.
func made(t *testing.T, room int) *disk.Disk {
	t.Helper()
	d, e := disk.New(room)
	if d == nil || e != api.OK {
		t.Fatalf("New(%d) = %v, %d", room, d, e)
	}
	return d
}

// started is a disk without anything that is on.
func started(t *testing.T, room int) *disk.Disk {
	t.Helper()
	d := made(t, room)
	checkStart(t, d, "")
	return d
}

// filled is a disk that is on: with a checkpoint, and with frames of which the last ones wait.
func filled(t *testing.T, state string, sure, waiting []string) *disk.Disk {
	t.Helper()
	d := started(t, maxRoom)
	checkErr(t, "Checkpoint", d.Checkpoint([]byte(state)), api.OK)
	lay(t, d, sure...)
	checkErr(t, "Sync", d.Sync(), api.OK)
	lay(t, d, waiting...)
	return d
}

// lay lays frames behind the log.
func lay(t *testing.T, d *disk.Disk, payloads ...string) {
	t.Helper()
	for _, p := range payloads {
		checkErr(t, "Append", d.Append([]byte(p)), api.OK)
	}
}

func checkErr(t *testing.T, call string, got, want api.Errno) {
	t.Helper()
	if got != want {
		t.Errorf("%s = %d, not %d", call, got, want)
	}
}

// checkStart starts a disk, and asks for a checkpoint and payloads.
func checkStart(t *testing.T, d *disk.Disk, state string, payloads ...string) {
	t.Helper()
	got, list, e := d.Start()
	if e != api.OK || string(got) != state || !slices.Equal(asTexts(list), payloads) {
		t.Errorf("Start = %.50q, %.50q, %d, not %.50q, %.50q", got, list, e, state, payloads)
	}
}

// asTexts are lists of bytes as texts.
func asTexts(list [][]byte) []string {
	var l []string
	for _, b := range list {
		l = append(l, string(b))
	}
	return l
}

// checkRefused calls what a disk is to refuse, twice, and asks that nothing has changed.
func checkRefused(t *testing.T, d *disk.Disk, want api.Errno, call func() api.Errno) {
	t.Helper()
	before := lookAt(d)
	for range 2 {
		if e := call(); e != want {
			t.Errorf("answered %d, not %d", e, want)
		}
		checkLook(t, d, before)
	}
}

// outside are rooms that no disk has.
var outside = []int{-1, -2, -100, math.MinInt, math.MinInt + 1, maxRoom + 1, maxRoom + 2, 1 << 32, 1<<32 + 1, math.MaxInt - 1, math.MaxInt}

// P7.1

func TestANewDiskIsOffAndHasNothing(t *testing.T) {
	for _, room := range []int{0, 1, 7, 8, 9, 100, 4096, maxRoom - 1, maxRoom} {
		d := made(t, room)
		checkLook(t, d, look{room: room})
		checkStart(t, d, "")
		checkLook(t, d, look{on: true, room: room})
	}
}

func TestNewOfARoomOutsideIsRefused(t *testing.T) {
	for _, room := range outside {
		if d, e := disk.New(room); d != nil || e != api.ErrArg {
			t.Errorf("New(%d) = %v, %d", room, d, e)
		}
	}
}

func TestResizeToARoomOutsideIsRefused(t *testing.T) {
	empty, off, on := made(t, 100), made(t, 100), filled(t, "state", []string{"a"}, []string{"bc"})
	for _, room := range outside {
		for _, d := range []*disk.Disk{empty, off, on} {
			// Also where more is used: the room that may not be is looked for first.
			checkRefused(t, d, api.ErrArg, func() api.Errno { return d.Resize(room) })
		}
	}
}

func TestResizeToWhatIsUsedAndBelowIt(t *testing.T) {
	on := filled(t, "state", []string{"a"}, []string{"bc", ""})
	off := filled(t, "state", []string{"a"}, []string{"bc", ""})
	off.Crash(1, 3)
	for d, used := range map[*disk.Disk]int{on: 13 + 9 + 10 + 8, off: 13 + 9 + 10 + 3, made(t, 7): 0} {
		want := lookAt(d)
		for _, room := range []int{used, used + 1, maxRoom, used} {
			checkErr(t, "Resize", d.Resize(room), api.OK)
			want.room = room
			checkLook(t, d, want)
		}
		for _, room := range []int{used - 1, used - 2, used / 2, 1, 0} {
			if room >= 0 && room < used {
				checkRefused(t, d, api.ErrFull, func() api.Errno { return d.Resize(room) })
			}
		}
	}
}

func TestANewRoomIsObeyed(t *testing.T) {
	d := started(t, 0)
	checkRefused(t, d, api.ErrFull, func() api.Errno { return d.Append(nil) })
	checkErr(t, "Resize", d.Resize(9), api.OK)
	checkRefused(t, d, api.ErrFull, func() api.Errno { return d.Append([]byte("bc")) })
	lay(t, d, "a")
	checkErr(t, "Sync", d.Sync(), api.OK)
	checkRefused(t, d, api.ErrFull, func() api.Errno { return d.Checkpoint([]byte("bc")) })
	d.Crash(0, 0)
	checkErr(t, "Resize", d.Resize(10), api.OK)
	checkStart(t, d, "", "a")
	checkErr(t, "Checkpoint", d.Checkpoint([]byte("bc")), api.OK)
	checkLook(t, d, look{on: true, used: 10, room: 10})
}

// P7.2

func TestStartOfADiskThatIsOnIsRefused(t *testing.T) {
	for _, d := range []*disk.Disk{started(t, 100), filled(t, "state", []string{"a"}, []string{"bc"})} {
		// Were the log read again, what is turned would be cut off.
		d.Flip(0, 1)
		checkRefused(t, d, api.ErrThere, func() api.Errno {
			state, list, e := d.Start()
			if len(state) != 0 || len(list) != 0 {
				t.Errorf("beside an error: %q, %q", state, list)
			}
			return e
		})
	}
}

func TestStartTellsTheCheckpointAndThePayloads(t *testing.T) {
	full := string(sample.Bytes(maxPayload))
	for _, state := range []string{"", "s", "\x00", frameOf("a"), full} {
		for _, l := range [][]string{nil, {""}, {"a"}, {"", "", ""}, {"a", "bc", "", "a", "a"}, {frameOf("a"), "\x00\x00\x00\x00\x00\x00\x00\x00"}, {full, "z", full}} {
			d := filled(t, state, l, nil)
			want := lookAt(d)
			for range 2 {
				d.Crash(0, 0)
				checkStart(t, d, state, l...)
				checkLook(t, d, want)
			}
		}
	}
}

func TestStartCutsOffWhatIsTorn(t *testing.T) {
	for torn := range len(frameOf("torn")) {
		d := filled(t, "state", []string{"a"}, []string{"bc", "torn", "lost"})
		d.Crash(1, torn)
		checkLook(t, d, look{used: 13 + 19 + torn, room: maxRoom, log: frames("a", "bc") + frameOf("torn")[:torn]})
		checkStart(t, d, "state", "a", "bc")
		checkLook(t, d, look{on: true, used: 13 + 19, room: maxRoom, log: frames("a", "bc")})
		// What comes next lies behind the last whole frame.
		lay(t, d, "next")
		checkLook(t, d, look{on: true, waiting: 1, used: 13 + 31, room: maxRoom, log: frames("a", "bc", "next")})
		checkErr(t, "Sync", d.Sync(), api.OK)
		d.Crash(0, 0)
		checkStart(t, d, "state", "a", "bc", "next")
	}
}

func TestStartCutsOffATurnedFrameAndAllBehindIt(t *testing.T) {
	l := []string{"a", "", "bcd"}
	begins := []int{0, 9, 17, 28}
	for at := range begins[3] {
		for bit := range 8 {
			d := filled(t, "state", l, nil)
			d.Crash(0, 0)
			if !d.Flip(at, 1<<bit) {
				t.Errorf("Flip(%d) = false", at)
			}
			n := 0
			for begins[n+1] <= at {
				n++
			}
			checkStart(t, d, "state", l[:n]...)
			checkLook(t, d, look{on: true, used: 13 + begins[n], room: maxRoom, log: frames(l[:n]...)})
		}
	}
}

func TestAllThatStartTellsIsSure(t *testing.T) {
	d := filled(t, "", []string{"a"}, []string{"bc", "d", "e"})
	d.Crash(2, 4)
	checkStart(t, d, "", "a", "bc", "d")
	checkLook(t, d, look{on: true, used: 28, room: maxRoom, log: frames("a", "bc", "d")})
	d.Crash(0, 0)
	checkStart(t, d, "", "a", "bc", "d")
	checkErr(t, "Checkpoint", d.Checkpoint([]byte("s")), api.OK)
	d.Crash(0, 0)
	checkStart(t, d, "s")
}

// P7.3

func TestADiskThatIsOffTakesNothing(t *testing.T) {
	torn := filled(t, "state", []string{"a"}, []string{"bc"})
	torn.Crash(0, 9)
	waited := filled(t, "state", []string{"a"}, []string{"bc"})
	waited.Crash(1, 0)
	for _, d := range []*disk.Disk{made(t, 100), made(t, 0), torn, waited} {
		// ErrDown is ahead of ErrLarge, ErrBusy and ErrFull.
		for _, n := range []int{0, 1, 92, 93, maxPayload, maxPayload + 1, maxRoom + 1} {
			checkRefused(t, d, api.ErrDown, func() api.Errno { return d.Append(make([]byte, n)) })
			checkRefused(t, d, api.ErrDown, func() api.Errno { return d.Checkpoint(make([]byte, n)) })
		}
		checkRefused(t, d, api.ErrDown, d.Sync)
	}
}

func TestWhatIsAppendedWaitsUntilItIsSynced(t *testing.T) {
	d := started(t, 1000)
	checkErr(t, "Sync", d.Sync(), api.OK)
	var l []string
	for i, p := range []string{"a", "", "bc", "\x00\xff", frameOf("a"), "a"} {
		lay(t, d, p)
		l = append(l, p)
		s := frames(l...)
		checkLook(t, d, look{on: true, waiting: i%3 + 1, used: len(s), room: 1000, log: s})
		if i%3 == 2 {
			checkErr(t, "Sync", d.Sync(), api.OK)
			checkErr(t, "Sync", d.Sync(), api.OK)
			checkLook(t, d, look{on: true, used: len(s), room: 1000, log: s})
		}
	}
	d.Crash(0, 0)
	checkStart(t, d, "", l...)
}

func TestAppendOfTheMostBytesAndOfMore(t *testing.T) {
	d := started(t, maxRoom)
	for _, n := range []int{maxPayload + 1, maxPayload + 2, 2 * maxPayload, maxRoom + 1} {
		checkRefused(t, d, api.ErrLarge, func() api.Errno { return d.Append(make([]byte, n)) })
	}
	full := string(sample.Bytes(maxPayload))
	lay(t, d, full, full[1:])
	checkLook(t, d, look{on: true, waiting: 2, used: 2*maxPayload + 15, room: maxRoom, log: frames(full, full[1:])})
	// ErrLarge is ahead of ErrFull.
	small := started(t, 0)
	checkRefused(t, small, api.ErrLarge, func() api.Errno { return small.Append(make([]byte, maxPayload+1)) })
	checkRefused(t, small, api.ErrFull, func() api.Errno { return small.Append(make([]byte, maxPayload)) })
}

func TestAppendFillsTheRoomToItsLastByte(t *testing.T) {
	for room := range 40 {
		for _, state := range []string{"", "s", "state"} {
			for n := range 35 {
				d := started(t, 100)
				checkErr(t, "Checkpoint", d.Checkpoint([]byte(state)), api.OK)
				if d.Resize(room) != api.OK {
					continue
				}
				p := strings.Repeat("p", n)
				used := d.Used() + ahead + n
				if used > room {
					checkRefused(t, d, api.ErrFull, func() api.Errno { return d.Append([]byte(p)) })
					continue
				}
				lay(t, d, p)
				checkLook(t, d, look{on: true, waiting: 1, used: used, room: room, log: frameOf(p)})
			}
		}
	}
}

func TestFramesThatWaitTakeRoomToo(t *testing.T) {
	d := started(t, 100)
	lay(t, d, strings.Repeat("x", 42), strings.Repeat("y", 34))
	checkRefused(t, d, api.ErrFull, func() api.Errno { return d.Append([]byte("z")) })
	lay(t, d, "")
	checkRefused(t, d, api.ErrFull, func() api.Errno { return d.Append(nil) })
	checkErr(t, "Sync", d.Sync(), api.OK)
	checkRefused(t, d, api.ErrFull, func() api.Errno { return d.Append(nil) })
}

func TestTheGreatestRoomIsFilled(t *testing.T) {
	d := started(t, maxRoom)
	full := string(sample.Bytes(maxPayload))
	l := slices.Repeat([]string{full}, 63)
	l = append(l, full[:maxRoom-63*(maxPayload+ahead)-ahead])
	lay(t, d, l[:63]...)
	checkRefused(t, d, api.ErrFull, func() api.Errno { return d.Append([]byte(full[:len(l[63])+1])) })
	lay(t, d, l[63])
	checkRefused(t, d, api.ErrFull, func() api.Errno { return d.Append(nil) })
	d.Crash(math.MaxInt, 0)
	checkStart(t, d, "", l...)
	checkLook(t, d, look{on: true, used: maxRoom, room: maxRoom, log: frames(l...)})
	checkRefused(t, d, api.ErrFull, func() api.Errno { return d.Checkpoint(make([]byte, maxRoom-beside+1)) })
	checkErr(t, "Checkpoint", d.Checkpoint(make([]byte, maxRoom-beside)), api.OK)
	checkLook(t, d, look{on: true, used: maxRoom, room: maxRoom})
	checkRefused(t, d, api.ErrFull, func() api.Errno { return d.Append(nil) })
}

func TestCheckpointStandsInTheLogsPlace(t *testing.T) {
	d := started(t, 100)
	for i, state := range []string{"one", "", "three", "\x00", strings.Repeat("s", 83), ""} {
		lay(t, d, "a")
		checkErr(t, "Sync", d.Sync(), api.OK)
		checkErr(t, "Checkpoint", d.Checkpoint([]byte(state)), api.OK)
		used := len(state)
		if used > 0 {
			used += beside
		}
		checkLook(t, d, look{on: true, used: used, room: 100})
		if i%2 == 0 {
			d.Crash(0, 0)
			checkStart(t, d, state)
			checkLook(t, d, look{on: true, used: used, room: 100})
		}
	}
}

func TestCheckpointOfAFrameThatWaitsIsBusy(t *testing.T) {
	d := filled(t, "state", []string{"a"}, []string{"bc"})
	for _, n := range []int{0, 1, 100, maxRoom, maxRoom + 1} {
		// ErrBusy is ahead of ErrFull.
		checkRefused(t, d, api.ErrBusy, func() api.Errno { return d.Checkpoint(make([]byte, n)) })
	}
	checkErr(t, "Sync", d.Sync(), api.OK)
	checkErr(t, "Checkpoint", d.Checkpoint(nil), api.OK)
	checkLook(t, d, look{on: true, room: maxRoom})
}

func TestCheckpointFillsTheRoomToItsLastByte(t *testing.T) {
	for room := range 30 {
		for n := range 30 {
			d := started(t, 100)
			checkErr(t, "Checkpoint", d.Checkpoint([]byte("old")), api.OK)
			checkErr(t, "Checkpoint", d.Checkpoint(nil), api.OK)
			checkErr(t, "Resize", d.Resize(room), api.OK)
			state := make([]byte, n)
			if n > 0 && n+beside > room {
				checkRefused(t, d, api.ErrFull, func() api.Errno { return d.Checkpoint(state) })
				continue
			}
			checkErr(t, "Checkpoint", d.Checkpoint(state), api.OK)
			d.Crash(0, 0)
			checkStart(t, d, string(state))
		}
	}
}

func TestCheckpointTakesNoRoomFromTheNextOne(t *testing.T) {
	d := started(t, 100)
	lay(t, d, strings.Repeat("x", 92))
	checkErr(t, "Sync", d.Sync(), api.OK)
	for _, b := range []byte("abc") {
		state := bytes.Repeat([]byte{b}, 93)
		checkRefused(t, d, api.ErrFull, func() api.Errno { return d.Checkpoint(state) })
		checkErr(t, "Checkpoint", d.Checkpoint(state[1:]), api.OK)
		checkLook(t, d, look{on: true, used: 100, room: 100})
	}
	d.Crash(0, 0)
	checkStart(t, d, strings.Repeat("c", 92))
}

// P7.4

// numbers are numbers to crash with: also beyond any size.
func numbers(most int) []int {
	l := []int{math.MinInt, math.MinInt + 1, -1 << 32, -2, -1, 1 << 32, 1<<32 + 1, math.MaxInt - 1, math.MaxInt}
	for n := range most + 3 {
		l = append(l, n)
	}
	return l
}

// kept is what stays of the frames that wait.
func kept(waiting []string, keep, torn int) (whole []string, part string) {
	n := 0
	for n < len(waiting) && n < keep {
		n++
	}
	if n == len(waiting) {
		return waiting, ""
	}
	next := frameOf(waiting[n])
	for len(part) < torn && len(part) < len(next)-1 {
		part = next[:len(part)+1]
	}
	return waiting[:n], part
}

func TestCrashKeepsABeginningOfWhatWaits(t *testing.T) {
	for _, sure := range [][]string{nil, {"s"}, {"s", "", "tt"}} {
		for _, waiting := range [][]string{nil, {""}, {"a"}, {"a", "", "bcd"}, {"a", "a", "a", "a"}, {"long enough to be", ""}} {
			for _, keep := range numbers(len(waiting)) {
				for _, torn := range numbers(26) {
					d := filled(t, "state", sure, waiting)
					d.Crash(keep, torn)
					stay, part := kept(waiting, keep, torn)
					whole := slices.Concat(sure, stay)
					log := frames(whole...)
					checkLook(t, d, look{used: 13 + len(log) + len(part), room: maxRoom, log: log + part})
					checkStart(t, d, "state", whole...)
					checkLook(t, d, look{on: true, used: 13 + len(log), room: maxRoom, log: log})
				}
			}
		}
	}
}

func TestCrashOfADiskThatIsOffDoesNothing(t *testing.T) {
	torn := filled(t, "state", []string{"a"}, []string{"bc", "d"})
	torn.Crash(1, 5)
	for _, d := range []*disk.Disk{made(t, 100), made(t, 0), torn} {
		before := lookAt(d)
		for _, keep := range numbers(2) {
			for _, n := range numbers(10) {
				d.Crash(keep, n)
				checkLook(t, d, before)
			}
		}
	}
	checkStart(t, torn, "state", "a", "bc")
}

func TestCrashKnowsTurnedFramesByTheirPlace(t *testing.T) {
	waiting := []string{"a", "", "bcd"}
	begins := []int{0, 9, 17, 28}
	for at := range begins[3] {
		for _, bits := range []byte{1, 8, 0xff} {
			for keep := range 4 {
				d := filled(t, "", []string{"s"}, waiting)
				d.Flip(9+at, bits)
				turned := string(d.Log())
				if d.Waiting() != 3 {
					t.Errorf("%d frames wait, not 3", d.Waiting())
				}
				d.Crash(keep, 2)
				n := 9 + begins[keep]
				if keep < 3 {
					n += 2
				}
				checkLook(t, d, look{used: n, room: maxRoom, log: turned[:n]})
			}
		}
	}
}

func TestCrashLeavesWhatIsSureThoughItIsTurned(t *testing.T) {
	d := filled(t, "", []string{"s", "tt"}, []string{"a"})
	d.Flip(3, 0xff)
	d.Flip(12, 0xff)
	turned := string(d.Log())
	d.Crash(0, 0)
	checkLook(t, d, look{used: 19, room: maxRoom, log: turned[:19]})
	checkStart(t, d, "")
	checkLook(t, d, look{on: true, room: maxRoom})
}

func TestTheLastByteOfATornFrameIsAlwaysLost(t *testing.T) {
	long := string(sample.Bytes(maxPayload))
	for _, torn := range []int{65535, 65536, 65542, 65543, 65544, 65545, math.MaxInt} {
		d := filled(t, "", nil, []string{long, "behind"})
		d.Crash(0, torn)
		checkLook(t, d, look{used: min(torn, 65543), room: maxRoom, log: frameOf(long)[:min(torn, 65543)]})
		checkStart(t, d, "")
	}
}

// P7.5

func TestEachStateOfADiskIsTold(t *testing.T) {
	d := made(t, 100)
	checkLook(t, d, look{room: 100})
	checkStart(t, d, "")
	checkLook(t, d, look{on: true, room: 100})
	lay(t, d, "a", "bc")
	checkLook(t, d, look{on: true, waiting: 2, used: 19, room: 100, log: frames("a", "bc")})
	checkErr(t, "Sync", d.Sync(), api.OK)
	checkLook(t, d, look{on: true, used: 19, room: 100, log: frames("a", "bc")})
	checkErr(t, "Checkpoint", d.Checkpoint([]byte("s")), api.OK)
	checkLook(t, d, look{on: true, used: 9, room: 100})
	lay(t, d, "d", "", "e")
	checkLook(t, d, look{on: true, waiting: 3, used: 35, room: 100, log: frames("d", "", "e")})
	d.Crash(1, 4)
	checkLook(t, d, look{used: 22, room: 100, log: frameOf("d") + frameOf("")[:4]})
	checkErr(t, "Resize", d.Resize(22), api.OK)
	checkLook(t, d, look{used: 22, room: 22, log: frameOf("d") + frameOf("")[:4]})
	checkStart(t, d, "s", "d")
	checkLook(t, d, look{on: true, used: 18, room: 22, log: frameOf("d")})
}

func TestFlipTurnsTheByteAtItsPlaceAlone(t *testing.T) {
	off := filled(t, "state", []string{"a"}, []string{"bc", "d"})
	off.Crash(1, 5)
	for _, d := range []*disk.Disk{filled(t, "state", []string{"a", "bc"}, nil), filled(t, "state", []string{"a"}, []string{"bc"}), off} {
		before := lookAt(d)
		for at := range len(before.log) {
			for bits := range 256 {
				turned := []byte(before.log)
				turned[at] ^= byte(bits)
				want := before
				want.log = string(turned)
				if !d.Flip(at, byte(bits)) {
					t.Errorf("Flip(%d, %d) = false", at, bits)
				}
				checkLook(t, d, want)
				// Once more, and the byte is as it was.
				if !d.Flip(at, byte(bits)) {
					t.Errorf("Flip(%d, %d) = false", at, bits)
				}
				checkLook(t, d, before)
			}
		}
	}
}

func TestFlipWhereNoByteIs(t *testing.T) {
	off := filled(t, "state", []string{"a"}, []string{"bc"})
	off.Crash(0, 3)
	// The checkpoint isn't of the log, nor is what was cut off.
	bare, cut := filled(t, "state", nil, nil), filled(t, "", []string{"a"}, []string{"bc"})
	cut.Crash(0, 0)
	for _, d := range []*disk.Disk{made(t, 100), started(t, 100), filled(t, "state", []string{"a"}, []string{"bc"}), off, bare, cut} {
		before := lookAt(d)
		n := len(before.log)
		for _, at := range []int{-1, -2, math.MinInt, math.MinInt + 1, -1 << 32, n, n + 1, n + 10, 1 << 32, math.MaxInt} {
			for _, bits := range []byte{0, 1, 0xff} {
				if d.Flip(at, bits) {
					t.Errorf("Flip(%d) of %d bytes = true", at, n)
				}
				checkLook(t, d, before)
			}
		}
	}
}

func TestAFlipThatIsTurnedBackDoesNoHarm(t *testing.T) {
	d := filled(t, "state", []string{"a"}, []string{"bc"})
	for at := range 19 {
		d.Flip(at, 0x55)
	}
	for at := range 19 {
		d.Flip(at, 0x55)
	}
	d.Crash(1, 0)
	checkStart(t, d, "state", "a", "bc")
}

// P7.6, R4

func TestWhatIsHandedInStays(t *testing.T) {
	for _, p := range []string{"", "a", "payload", frameOf("a"), string(sample.Bytes(300)), strings.Repeat("x", maxPayload+1)} {
		b, check := sample.InRoom(t, []byte(p), []byte("behind")...)
		for _, d := range []*disk.Disk{made(t, maxRoom), started(t, 10), started(t, maxRoom), filled(t, "state", []string{"a"}, nil)} {
			d.Checkpoint(b)
			d.Append(b)
			d.Checkpoint(b)
			d.Flip(0, 0xff)
			d.Sync()
			d.Checkpoint(b)
			d.Append(b)
			d.Crash(0, 3)
			d.Start()
			check()
		}
	}
}

func TestNothingThatWasHandedInIsKept(t *testing.T) {
	d := started(t, 100)
	state, payload := []byte("state"), []byte("payload")
	checkErr(t, "Checkpoint", d.Checkpoint(state), api.OK)
	checkErr(t, "Append", d.Append(payload), api.OK)
	clear(state)
	clear(payload)
	checkLook(t, d, look{on: true, waiting: 1, used: 28, room: 100, log: frameOf("payload")})
	d.Crash(1, 0)
	checkStart(t, d, "state", "payload")
}

func TestWhatLiesBehindTheLengthIsNotRead(t *testing.T) {
	d := started(t, 100)
	all := []byte("statebehind")
	checkErr(t, "Checkpoint", d.Checkpoint(all[:5]), api.OK)
	checkErr(t, "Append", d.Append(all[:5]), api.OK)
	checkLook(t, d, look{on: true, waiting: 1, used: 26, room: 100, log: frameOf("state")})
	d.Crash(1, 0)
	checkStart(t, d, "state", "state")
}

func TestWhatIsAnsweredIsNew(t *testing.T) {
	d := filled(t, "state", []string{"a", ""}, []string{"bcd"})
	want := lookAt(d)
	for range 2 {
		sample.Spoil(d.Log())
		checkLook(t, d, want)
	}
	_ = append(d.Log(), "grown behind its end"...)
	checkLook(t, d, want)
	d.Crash(1, 0)
	want.on, want.waiting = true, 0
	for range 3 {
		state, list, _ := d.Start()
		if string(state) != "state" || !slices.Equal(asTexts(list), []string{"a", "", "bcd"}) {
			t.Errorf("Start = %q, %q", state, list)
		}
		sample.Spoil(state)
		for _, p := range list {
			sample.Spoil(p)
		}
		clear(list)
		checkLook(t, d, want)
		d.Crash(0, 0)
	}
}

func TestTheListsOfAnAnswerShareNothing(t *testing.T) {
	want := []string{"state", "a", "", "bcd", "e"}
	for i := range want {
		d := filled(t, want[0], want[1:], nil)
		d.Crash(0, 0)
		state, list, _ := d.Start()
		all := slices.Concat([][]byte{state}, list)
		sample.Spoil(all[i])
		all[i] = append(all[i], "grown behind its end"...)
		for j, b := range all {
			if j != i && string(b) != want[j] {
				t.Errorf("lists %d and %d of an answer share memory", i, j)
			}
		}
	}
}

func TestAnAnswerStaysWhateverComesBehindIt(t *testing.T) {
	d := filled(t, "state", []string{"a"}, []string{"bc", "d"})
	log := d.Log()
	d.Flip(0, 0xff)
	d.Flip(0, 0xff)
	d.Crash(1, 0)
	state, list, _ := d.Start()
	lay(t, d, "other")
	checkErr(t, "Sync", d.Sync(), api.OK)
	checkErr(t, "Checkpoint", d.Checkpoint([]byte("STATE")), api.OK)
	lay(t, d, "over it")
	for at := range len(d.Log()) {
		d.Flip(at, 0xff)
	}
	if string(log) != frames("a", "bc", "d") || string(state) != "state" || !slices.Equal(asTexts(list), []string{"a", "bc"}) {
		t.Errorf("what was answered became %q, %q, %q", log, state, list)
	}
}

func TestDisksShareNothing(t *testing.T) {
	one, two := filled(t, "state", []string{"a"}, []string{"bc"}), filled(t, "state", []string{"a"}, []string{"bc"})
	want := lookAt(two)
	one.Flip(9, 0xff)
	lay(t, one, "d")
	one.Resize(1000)
	one.Crash(0, 2)
	checkStart(t, one, "state", "a")
	one.Checkpoint(nil)
	checkLook(t, two, want)
	two.Crash(1, 0)
	checkStart(t, two, "state", "a", "bc")
}

// The chapter's examples.

func TestTheChaptersExamples(t *testing.T) {
	d := started(t, 100)
	lay(t, d, "a", "bc")
	checkErr(t, "Sync", d.Sync(), api.OK)
	lay(t, d, "d", "e")
	d.Crash(1, 4)
	checkLook(t, d, look{used: 32, room: 100, log: frames("a", "bc", "d") + frameOf("e")[:4]})
	checkStart(t, d, "", "a", "bc", "d")
	checkLook(t, d, look{on: true, used: 28, room: 100, log: frames("a", "bc", "d")})
	other := started(t, 100)
	other.Crash(0, 9)
	checkLook(t, other, look{room: 100})
	checkStart(t, other, "")
	empty := started(t, 100)
	checkRefused(t, empty, api.ErrFull, func() api.Errno { return empty.Append(make([]byte, 93)) })
	checkErr(t, "Append", empty.Append(make([]byte, 92)), api.OK)
	checkLook(t, empty, look{on: true, waiting: 1, used: 100, room: 100, log: frameOf(string(make([]byte, 92)))})
}
