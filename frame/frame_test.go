package frame_test

import (
	"bytes"
	"encoding/binary"
	"encoding/hex"
	"hash/crc32"
	"math"
	"slices"
	"strings"
	"testing"

	"shelfmark/api"
	"shelfmark/frame"
	"shelfmark/sample"
)

// ahead is how many bytes of a frame stand ahead of its payload.
const ahead = 8

// frameThatTells is a frame that tells a length, which may not be its payload's, and the sum that goes with it.
func frameThatTells(size uint32, payload []byte) []byte {
	told := binary.BigEndian.AppendUint32(nil, size)
	sum := crc32.ChecksumIEEE(slices.Concat(told, payload))
	return slices.Concat(binary.BigEndian.AppendUint32(told, sum), payload)
}

// frameOf is a payload's frame, by the library, so that it leans on nothing of the package.
func frameOf(payload []byte) []byte {
	return frameThatTells(uint32(len(payload)), payload)
}

// frames are the frames of payloads, one behind the other.
func frames(payloads [][]byte) []byte {
	var b []byte
	for _, p := range payloads {
		b = append(b, frameOf(p)...)
	}
	return b
}

// firstError is what is wrong with the frame with which b begins.
func firstError(b []byte) api.Errno {
	if len(b) < ahead {
		return api.ErrShort
	}
	size := int(binary.BigEndian.Uint32(b))
	switch {
	case size > 65536:
		return api.ErrLarge
	case len(b)-ahead < size:
		return api.ErrShort
	case !bytes.HasPrefix(b, frameOf(b[ahead:ahead+size])):
		return api.ErrSum
	}
	return api.OK
}

// whole are the payloads of the frames that stand in b, and how many bytes they take.
func whole(b []byte) (l [][]byte, n int) {
	for firstError(b[n:]) == api.OK {
		size := int(binary.BigEndian.Uint32(b[n:]))
		l = append(l, b[n+ahead:n+ahead+size])
		n += ahead + size
	}
	return l, n
}

// payloads are some that may be: of no bytes, few and the most, of bytes alike and unlike, and such that look like frames.
func payloads() [][]byte {
	l := [][]byte{nil, {}, []byte("a"), []byte("bc"), []byte("123456789"), frameOf(nil), frameOf([]byte("a")), frameOf([]byte("a"))[:5], frames([][]byte{{1}, nil, {2, 3}})}
	for c := range 256 {
		l = append(l, []byte{byte(c)})
	}
	for _, n := range []int{2, 3, 4, 7, 8, 9, 15, 16, 17, 127, 128, 255, 256, 257, 1000, 65535, 65536} {
		l = append(l, make([]byte, n), bytes.Repeat([]byte{0xff}, n), sample.Bytes(n))
	}
	return l
}

// smallPayloads are those of the payloads that have at most 20 bytes.
func smallPayloads() [][]byte {
	return slices.DeleteFunc(payloads(), func(p []byte) bool { return len(p) > 20 })
}

// rows are rows of payloads, whose frames stand one behind the other.
func rows() [][][]byte {
	return [][][]byte{
		nil,
		{nil},
		{[]byte("a")},
		{nil, nil, nil},
		{[]byte("a"), []byte("bc"), nil, []byte("d"), []byte("e")},
		{frameOf([]byte("a")), nil, frameOf(nil), make([]byte, 8), bytes.Repeat([]byte{0xff}, 8)},
		{sample.Bytes(30), sample.Bytes(1), sample.Bytes(7), sample.Bytes(300)},
	}
}

// tails are bytes behind frames with which no frame begins.
func tails() [][]byte {
	turned := frameOf([]byte("turned"))
	turned[len(turned)-1] ^= 1
	return [][]byte{
		{0},
		make([]byte, 7),
		make([]byte, 8),
		make([]byte, 100),
		bytes.Repeat([]byte{0xff}, 100),
		turned,
		frameOf([]byte("cut"))[:10],
		frameOf(sample.Bytes(65537)),
	}
}

// words are all rows of up to most bytes out of those that matter in a frame's length.
func words(most int) [][]byte {
	all, last := [][]byte{nil}, [][]byte{nil}
	for range most {
		var longer [][]byte
		for _, w := range last {
			for _, c := range []byte{0, 1, 0xff} {
				longer = append(longer, slices.Concat(w, []byte{c}))
			}
		}
		all, last = append(all, longer...), longer
	}
	return all
}

// checkFirst tells whether First answers what it must.
func checkFirst(t *testing.T, b []byte, payload []byte, n int, want api.Errno) {
	t.Helper()
	got, size, e := frame.First(b)
	if !bytes.Equal(got, payload) || size != n || e != want {
		t.Errorf("First of %d bytes = %d bytes, %d, %d, not %d bytes, %d, %d, or others", len(b), len(got), size, e, len(payload), n, want)
	}
}

// checkScan tells whether Scan answers what it must.
func checkScan(t *testing.T, b []byte, list [][]byte, n int) {
	t.Helper()
	got, size := frame.Scan(b)
	if !slices.EqualFunc(got, list, bytes.Equal) || size != n {
		t.Errorf("Scan of %d bytes = %d payloads, %d, not %d, %d, or others", len(b), len(got), size, len(list), n)
	}
}

// P6.1

func TestWrapOfKnownPayloads(t *testing.T) {
	for _, c := range []struct{ payload, want string }{
		{"a", "00000001e58c979261"},
		{"", "000000002144df1c"},
	} {
		got, e := frame.Wrap([]byte(c.payload))
		if hex.EncodeToString(got) != c.want || e != api.OK {
			t.Errorf("Wrap(%q) = %x %d, not %s", c.payload, got, e, c.want)
		}
	}
}

func TestWrapIsTheFrame(t *testing.T) {
	for _, p := range payloads() {
		if got, e := frame.Wrap(p); !bytes.Equal(got, frameOf(p)) || e != api.OK {
			t.Errorf("Wrap of %d bytes = %d bytes, %d, or others than the frame's", len(p), len(got), e)
		}
	}
}

func TestWrapOfALengthTellsTheHighestByteFirst(t *testing.T) {
	for _, c := range []struct {
		n    int
		want string
	}{
		{255, "000000ff"}, {256, "00000100"}, {258, "00000102"}, {65535, "0000ffff"}, {65536, "00010000"},
	} {
		got, e := frame.Wrap(make([]byte, c.n))
		if e != api.OK || len(got) != ahead+c.n || hex.EncodeToString(got[:4]) != c.want {
			t.Errorf("Wrap of %d bytes = %d bytes, %d, or another length is told", c.n, len(got), e)
		}
	}
}

func TestWrapOfTooMuch(t *testing.T) {
	for _, n := range []int{65537, 65538, 65544, 2 * 65536, 1 << 20, 1 << 24} {
		if got, e := frame.Wrap(make([]byte, n)); len(got) != 0 || e != api.ErrLarge {
			t.Errorf("Wrap of %d bytes = %d bytes, %d", n, len(got), e)
		}
	}
}

// P6.2

func TestFirstOfKnownFrames(t *testing.T) {
	for _, c := range []struct {
		bytes   string
		payload string
		n       int
		e       api.Errno
	}{
		{"00000001e58c979261", "a", 9, api.OK},
		{"000000002144df1c", "", 8, api.OK},
		{"0000000000000000", "", 0, api.ErrSum},
		{"00000001e58c9792", "", 0, api.ErrShort},
		{"00000001e58c979262", "", 0, api.ErrSum},
		{"", "", 0, api.ErrShort},
	} {
		b, _ := hex.DecodeString(c.bytes)
		checkFirst(t, b, []byte(c.payload), c.n, c.e)
	}
}

func TestFirstReadsWhatWrapWrites(t *testing.T) {
	for _, p := range payloads() {
		b := frameOf(p)
		for _, behind := range append(tails(), nil, frameOf(nil), b) {
			checkFirst(t, slices.Concat(b, behind), p, len(b), api.OK)
		}
	}
}

func TestFirstOfACutFrameIsShort(t *testing.T) {
	for _, p := range smallPayloads() {
		b := frameOf(p)
		for n := range b {
			checkFirst(t, b[:n], nil, 0, api.ErrShort)
			// What is missing is asked for ahead of the sum.
			wrong := bytes.Clone(b[:n])
			for i := min(4, n); i < n; i++ {
				wrong[i] ^= 0xff
			}
			checkFirst(t, wrong, nil, 0, api.ErrShort)
		}
	}
	b := frameOf(sample.Bytes(65536))
	for _, n := range []int{0, 7, 8, 9, 65535, 65536, 65537, 65543} {
		checkFirst(t, b[:n], nil, 0, api.ErrShort)
	}
	checkFirst(t, b, sample.Bytes(65536), 65544, api.OK)
}

func TestFirstOfFewerThanEightBytesIsShortWhateverTheyTell(t *testing.T) {
	for n := range ahead {
		for _, c := range []byte{0, 1, 0x7f, 0x80, 0xff} {
			checkFirst(t, bytes.Repeat([]byte{c}, n), nil, 0, api.ErrShort)
		}
	}
}

func TestFirstOfTooMuchIsLarge(t *testing.T) {
	for _, size := range []uint32{65537, 65538, 65792, 1 << 17, 1 << 24, math.MaxInt32, 1 << 31, 1<<31 + 1, math.MaxUint32 - 7, math.MaxUint32} {
		for _, p := range [][]byte{nil, {1}, make([]byte, 100), sample.Bytes(65536)} {
			// Asked ahead of what is missing, and of the sum.
			b := frameThatTells(size, p)
			checkFirst(t, b, nil, 0, api.ErrLarge)
			b[5] ^= 1
			checkFirst(t, b, nil, 0, api.ErrLarge)
		}
	}
	// Neither does it help that all is there, and the sum is right.
	for _, n := range []int{65537, 65538, 1 << 17, 1 << 20} {
		checkFirst(t, frameOf(make([]byte, n)), nil, 0, api.ErrLarge)
	}
}

func TestFirstOfATurnedBit(t *testing.T) {
	for _, p := range append(smallPayloads(), sample.Bytes(300)) {
		b := frameOf(p)
		for i := range 8 * len(b) {
			turned := slices.Concat(b, make([]byte, 300))
			turned[i/8] ^= 1 << (i % 8)
			want := api.ErrSum
			if i < 32 { // a bit of the length
				want = firstError(turned)
			}
			if want == api.OK {
				t.Fatalf("of %x the bit %d makes another frame", b, i)
			}
			checkFirst(t, turned, nil, 0, want)
		}
	}
}

func TestFirstAsksForTheSumOfTheLengthAndThePayload(t *testing.T) {
	for _, p := range [][]byte{[]byte("a"), []byte("123456789"), sample.Bytes(100)} {
		b := frameOf(p)
		size, sum := b[:4], b[4:8]
		little := binary.LittleEndian.AppendUint32(nil, binary.BigEndian.Uint32(sum))
		for _, other := range [][]byte{
			binary.BigEndian.AppendUint32(nil, crc32.ChecksumIEEE(p)),
			binary.BigEndian.AppendUint32(nil, crc32.ChecksumIEEE(size)),
			binary.BigEndian.AppendUint32(nil, crc32.ChecksumIEEE(slices.Concat(p, size))),
			binary.BigEndian.AppendUint32(nil, ^binary.BigEndian.Uint32(sum)),
			binary.BigEndian.AppendUint32(nil, crc32.Checksum(slices.Concat(size, p), crc32.MakeTable(crc32.Castagnoli))),
			little,
			make([]byte, 4),
		} {
			checkFirst(t, slices.Concat(size, other, p), nil, 0, api.ErrSum)
		}
	}
}

func TestFirstOfAnotherLength(t *testing.T) {
	// A length that is told too small leaves the rest of the payload out of the sum.
	for _, size := range []uint32{0, 1, 8} {
		b := frameOf([]byte("123456789"))
		binary.BigEndian.PutUint32(b, size)
		checkFirst(t, b, nil, 0, api.ErrSum)
		// With the sum of all that is there too.
		checkFirst(t, frameThatTells(size, []byte("123456789")), nil, 0, api.ErrSum)
	}
	checkFirst(t, frameThatTells(10, []byte("123456789")), nil, 0, api.ErrShort)
	// The lowest byte first: 1 is beyond the most.
	checkFirst(t, slices.Concat([]byte{1, 0, 0, 0}, frameOf([]byte("a"))[4:]), nil, 0, api.ErrLarge)
}

// P6.3

func TestScanOfNothing(t *testing.T) {
	checkScan(t, nil, nil, 0)
	checkScan(t, []byte{}, nil, 0)
}

func TestScanTellsThePayloadsInOrder(t *testing.T) {
	for _, l := range append(rows(), payloads()) {
		b := frames(l)
		checkScan(t, b, l, len(b))
		for _, tail := range tails() {
			checkScan(t, slices.Concat(b, tail), l, len(b))
			// What stands behind the first that isn't whole isn't told, whole or not.
			checkScan(t, slices.Concat(b, tail, frameOf([]byte("late"))), l, len(b))
		}
	}
}

func TestScanOfKnownFrames(t *testing.T) {
	one, two := frameOf([]byte("a")), frameOf([]byte("bc"))
	checkScan(t, slices.Concat(one, two[:5]), [][]byte{[]byte("a")}, 9)
	checkScan(t, slices.Concat(one, two), [][]byte{[]byte("a"), []byte("bc")}, 19)
	checkScan(t, slices.Concat(two, one), [][]byte{[]byte("bc"), []byte("a")}, 19)
	checkScan(t, slices.Concat(one, one, one), [][]byte{[]byte("a"), []byte("a"), []byte("a")}, 27)
	checkScan(t, slices.Concat([]byte{0}, one), nil, 0)
}

func TestScanTellsFramesWithoutBytesToo(t *testing.T) {
	for _, n := range []int{1, 2, 10, 5000} {
		l := make([][]byte, n)
		b := frames(l)
		checkScan(t, b, l, 8*n)
		checkScan(t, b[:len(b)-1], l[1:], 8*(n-1))
	}
}

func TestScanTellsFramesOfTheMostBytes(t *testing.T) {
	l := [][]byte{sample.Bytes(65536), sample.Bytes(65535), sample.Bytes(65536)}
	b := frames(l)
	checkScan(t, b, l, len(b))
	checkScan(t, slices.Concat(b, frameOf(sample.Bytes(65537)), b), l, len(b))
	checkScan(t, b[:len(b)-1], l[:2], 2*65536+15)
}

func TestScanOfWhatDiceThrow(t *testing.T) {
	d := sample.Dice(6)
	wrong := tails()
	for range 3000 {
		var b []byte
		for range d.Below(6) {
			b = append(b, frameOf(sample.Bytes(d.Below(12)))...)
			if d.Below(8) == 0 {
				b = append(b, sample.Pick(&d, wrong[:5])...)
			}
		}
		if len(b) > 0 && d.Below(3) == 0 {
			b[d.Below(len(b))] ^= 1 << d.Below(8)
		}
		b = b[:d.Below(len(b)+1)]
		l, n := whole(b)
		checkScan(t, b, l, n)
	}
}

// P6.4

func TestScanOfFramesThatAreCutOffTellsThoseThatAreWhole(t *testing.T) {
	for _, l := range rows() {
		b := frames(l)
		for cut := range len(b) + 1 {
			count, n := 0, 0
			for count < len(l) && n+ahead+len(l[count]) <= cut {
				n += ahead + len(l[count])
				count++
			}
			checkScan(t, b[:cut], l[:count], n)
		}
	}
}

func TestScanOfATurnedBitTellsTheFramesAheadOfIt(t *testing.T) {
	for _, l := range rows() {
		b := frames(l)
		for i := range 8 * len(b) {
			count, n := 0, 0
			for n+ahead+len(l[count]) <= i/8 {
				n += ahead + len(l[count])
				count++
			}
			b[i/8] ^= 1 << (i % 8)
			checkScan(t, b, l[:count], n)
			b[i/8] ^= 1 << (i % 8)
		}
	}
}

// P6.4, R4

func TestWhatIsHandedInStays(t *testing.T) {
	for _, l := range rows() {
		for _, inside := range append([][]byte{frames(l), slices.Concat(frames(l), []byte("rest"))}, l...) {
			b, check := sample.InRoom(t, inside, []byte("behind")...)
			frame.Wrap(b)
			frame.First(b)
			frame.Scan(b)
			check()
		}
	}
	b, check := sample.InRoom(t, make([]byte, 65537), 1, 2, 3)
	frame.Wrap(b)
	check()
}

func TestWhatLiesBehindTheLengthIsNotRead(t *testing.T) {
	for _, p := range smallPayloads() {
		all := slices.Concat(frameOf(p), frameOf([]byte("behind")))
		size := ahead + len(p)
		for n := range size {
			checkFirst(t, all[:n], nil, 0, api.ErrShort)
			checkScan(t, all[:n], nil, 0)
		}
		for n := size; n < len(all); n++ {
			checkScan(t, all[:n], [][]byte{p}, size)
		}
		if got, e := frame.Wrap(all[ahead:size]); !bytes.Equal(got, frameOf(p)) || e != api.OK {
			t.Errorf("Wrap of %x read on: %x %d", p, got, e)
		}
	}
}

func TestNothingThatWasHandedInIsKept(t *testing.T) {
	payload := []byte("payload")
	wrapped, _ := frame.Wrap(payload)
	clear(payload)
	if !bytes.Equal(wrapped, frameOf([]byte("payload"))) {
		t.Errorf("Wrap kept its payload: %x", wrapped)
	}
	want := [][]byte{[]byte("one"), nil, []byte("three")}
	b := frames(want)
	first, _, _ := frame.First(b)
	list, _ := frame.Scan(b)
	clear(b)
	if string(first) != "one" {
		t.Errorf("First kept its bytes: %q", first)
	}
	if !slices.EqualFunc(list, want, bytes.Equal) {
		t.Errorf("Scan kept its bytes: %q", list)
	}
	checkScan(t, b, nil, 0)
}

func TestWhatIsAnsweredIsNew(t *testing.T) {
	for _, p := range smallPayloads() {
		b := frameOf(p)
		payload, wrapped := bytes.Clone(p), bytes.Clone(b)
		one, _ := frame.Wrap(payload)
		two, _ := frame.Wrap(payload)
		sample.Spoil(one)
		if !bytes.Equal(two, b) || !bytes.Equal(payload, p) {
			t.Errorf("Wrap(%x) shares its answer: %x", p, two)
		}
		first, _, _ := frame.First(wrapped)
		second, _, _ := frame.First(wrapped)
		sample.Spoil(first)
		if !bytes.Equal(second, p) || !bytes.Equal(wrapped, b) {
			t.Errorf("First(%x) shares its answer: %x", b, second)
		}
	}
}

func TestTheListsOfAScanShareNothing(t *testing.T) {
	for _, l := range rows() {
		b := frames(l)
		handed := bytes.Clone(b)
		for i := range l {
			list, _ := frame.Scan(handed)
			other, _ := frame.Scan(handed)
			sample.Spoil(list[i])
			list[i] = append(list[i], "grown behind its end"...)
			for j, p := range l {
				if j != i && !bytes.Equal(list[j], p) {
					t.Errorf("payloads %d and %d of a scan share memory", i, j)
				}
			}
			clear(list)
			if !slices.EqualFunc(other, l, bytes.Equal) || !bytes.Equal(handed, b) {
				t.Errorf("payload %d of a scan is shared with what was handed in, or with another answer", i)
			}
		}
	}
}

// P1, R1, R3, R8

func TestEachCallEndsAtAnyArgument(t *testing.T) {
	l := append(words(5), tails()...)
	for _, w := range words(4) {
		l = append(l, slices.Concat(w, []byte{1, 2, 3, 4, 5}), slices.Concat([]byte{0, 0}, w, make([]byte, 9)))
	}
	for _, p := range payloads() {
		l = append(l, p, frameOf(p))
	}
	for _, b := range l {
		list, n := whole(b)
		want, payload, size := firstError(b), []byte(nil), 0
		if want == api.OK {
			payload, size = list[0], ahead+len(list[0])
		}
		// Twice: the same bytes have the same answer.
		for range 2 {
			checkFirst(t, b, payload, size, want)
			checkScan(t, b, list, n)
		}
		one, e := frame.Wrap(b)
		two, again := frame.Wrap(b)
		if !bytes.Equal(one, two) || e != again || (e == api.OK) != (len(b) <= 65536) {
			t.Errorf("Wrap of %d bytes = %d bytes, %d, then %d bytes, %d", len(b), len(one), e, len(two), again)
		}
	}
}

func TestALongRowOfBytes(t *testing.T) {
	var l [][]byte
	for i := range 3000 {
		l = append(l, []byte(strings.Repeat("x", i)))
	}
	b := frames(l)
	checkScan(t, b, l, len(b))
	checkScan(t, make([]byte, 1<<22), nil, 0)
	checkScan(t, bytes.Repeat([]byte{0xff}, 1<<22), nil, 0)
}
