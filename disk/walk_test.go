package disk_test

import (
	"math"
	"slices"
	"testing"

	"shelfmark/api"
	"shelfmark/disk"
	"shelfmark/sample"
)

// lain is a frame, or a part of one, and how its bytes lie on the disk.
type lain struct {
	payload string
	bytes   string
}

// model is a disk told by whole frames, not by the bytes of a log.
type model struct {
	room  int
	on    bool
	state string
	log   []lain
	sure  int // how many frames of the log are sure
}

func (m *model) bytes() string {
	s := ""
	for _, l := range m.log {
		s += l.bytes
	}
	return s
}

func (m *model) used() int {
	n := len(m.bytes())
	if m.state != "" {
		n += beside + len(m.state)
	}
	return n
}

func (m *model) look() look {
	return look{m.on, len(m.log) - m.sure, m.used(), m.room, m.bytes()}
}

func (m *model) start() (state string, list []string, e api.Errno) {
	if m.on {
		return "", nil, api.ErrThere
	}
	n := 0
	for n < len(m.log) && m.log[n].bytes == frameOf(m.log[n].payload) {
		list = append(list, m.log[n].payload)
		n++
	}
	m.on, m.log, m.sure = true, m.log[:n], n
	return m.state, list, api.OK
}

func (m *model) append(payload string) api.Errno {
	switch {
	case !m.on:
		return api.ErrDown
	case len(payload) > maxPayload:
		return api.ErrLarge
	case m.used()+ahead+len(payload) > m.room:
		return api.ErrFull
	}
	m.log = append(slices.Clone(m.log), lain{payload, frameOf(payload)})
	return api.OK
}

func (m *model) sync() api.Errno {
	if !m.on {
		return api.ErrDown
	}
	m.sure = len(m.log)
	return api.OK
}

func (m *model) checkpoint(state string) api.Errno {
	switch {
	case !m.on:
		return api.ErrDown
	case m.sure < len(m.log):
		return api.ErrBusy
	case state != "" && len(state)+beside > m.room:
		return api.ErrFull
	}
	m.state, m.log, m.sure = state, nil, 0
	return api.OK
}

func (m *model) crash(keep, torn int) {
	if !m.on {
		return
	}
	m.on = false
	log := slices.Clone(m.log[:m.sure])
	for i, l := range m.log[m.sure:] {
		if i >= keep {
			if n := min(torn, len(l.bytes)-1); n > 0 {
				log = append(log, lain{l.payload, l.bytes[:n]})
			}
			break
		}
		log = append(log, l)
	}
	m.log, m.sure = log, len(log)
}

func (m *model) resize(room int) api.Errno {
	switch {
	case room < 0 || room > maxRoom:
		return api.ErrArg
	case m.used() > room:
		return api.ErrFull
	}
	m.room = room
	return api.OK
}

func (m *model) flip(at int, bits byte) bool {
	for i, l := range m.log {
		if at >= 0 && at < len(l.bytes) {
			b := []byte(l.bytes)
			b[at] ^= bits
			m.log = slices.Clone(m.log)
			m.log[i].bytes = string(b)
			return true
		}
		at -= len(l.bytes)
	}
	return false
}

// walk is a disk and the model that it is to be like.
type walk struct {
	t    *testing.T
	dice sample.Dice
	d    *disk.Disk
	m    model
}

func (w *walk) check(call string, got, want api.Errno) {
	w.t.Helper()
	if got != want {
		w.t.Fatalf("%s = %d, not %d", call, got, want)
	}
}

func (w *walk) start() {
	w.t.Helper()
	state, list, e := w.d.Start()
	wantState, wantList, want := w.m.start()
	w.check("Start", e, want)
	if string(state) != wantState || !slices.Equal(asTexts(list), wantList) {
		w.t.Fatalf("Start = %q, %q, not %q, %q", state, list, wantState, wantList)
	}
}

func (w *walk) flip() {
	w.t.Helper()
	at, bits := w.dice.Below(len(w.m.bytes())+3)-1, byte(w.dice.Below(256))
	if w.m.flip(at, bits) != w.d.Flip(at, bits) {
		w.t.Fatalf("Flip(%d, %d) is not as it was to be", at, bits)
	}
}

// step does with both, by dice, one of the things that can be done.
func (w *walk) step() {
	w.t.Helper()
	far := []int{math.MinInt, -1, math.MaxInt}
	switch n := w.dice.Below(100); {
	case n < 40:
		p := string(sample.Bytes(w.dice.Below(14)))
		w.check("Append", w.d.Append([]byte(p)), w.m.append(p))
	case n < 41:
		p := string(make([]byte, maxPayload+1))
		w.check("Append", w.d.Append([]byte(p)), w.m.append(p))
	case n < 53:
		w.check("Sync", w.d.Sync(), w.m.sync())
	case n < 62:
		state := string(sample.Bytes(max(0, w.dice.Below(60)-8)))
		w.check("Checkpoint", w.d.Checkpoint([]byte(state)), w.m.checkpoint(state))
	case n < 72:
		room := sample.Pick(&w.dice, append(far, w.dice.Below(300), w.dice.Below(300), w.m.used(), w.m.used()-1, 300, maxRoom, maxRoom+1))
		w.check("Resize", w.d.Resize(room), w.m.resize(room))
	case n < 76:
		w.flip()
	case n < 82:
		keep := sample.Pick(&w.dice, append(far, w.dice.Below(5), w.dice.Below(5), w.dice.Below(5)))
		torn := sample.Pick(&w.dice, append(far, w.dice.Below(24), w.dice.Below(24), w.dice.Below(24)))
		w.d.Crash(keep, torn)
		w.m.crash(keep, torn)
	default:
		w.start()
	}
}

// P1, R1 to R3, R5, R8: each call, in any state, is as the chapter says, and ends.

func TestLongWalks(t *testing.T) {
	for seed := range 300 {
		room := 50 + 10*seed
		w := walk{t, sample.Dice(seed), made(t, room), model{room: room}}
		// Another disk to which the same is done answers the same.
		again := walk{t, sample.Dice(seed), made(t, room), model{room: room}}
		for range 300 {
			w.step()
			checkLook(t, w.d, w.m.look())
			again.step()
			checkLook(t, again.d, lookAt(w.d))
		}
		if t.Failed() {
			t.Fatalf("walk %d", seed)
		}
	}
}

// What a crash leaves of a log that was laid down in many steps is a beginning of it, and each frame that Start tells was appended at its place.
func TestALongLogIsCutAgainAndAgain(t *testing.T) {
	w := walk{t, sample.Dice(7), made(t, maxRoom), model{room: maxRoom}}
	for i := range 150 {
		w.start()
		for range w.dice.Below(6) {
			p := string(sample.Bytes(w.dice.Below(40)))
			w.check("Append", w.d.Append([]byte(p)), w.m.append(p))
		}
		if i%5 == 0 {
			w.check("Sync", w.d.Sync(), w.m.sync())
		}
		keep, torn := w.dice.Below(6), w.dice.Below(60)
		w.d.Crash(keep, torn)
		w.m.crash(keep, torn)
		checkLook(t, w.d, w.m.look())
	}
}
