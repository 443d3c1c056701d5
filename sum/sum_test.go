package sum_test

import (
	"bytes"
	"hash/crc32"
	"math"
	"strings"
	"testing"

	"shelfmark/api"
	"shelfmark/sum"
)

// sumOf is the sum by long division of the whole row of bits, so that it leans on nothing of the package: the bits of each byte from the lowest on, the first 32 of them turned, and 32 more that are none.
func sumOf(b []byte) uint32 {
	bits := make([]bool, 0, 8*len(b)+32)
	for _, c := range append(bytes.Clone(b), 0, 0, 0, 0) {
		for i := range 8 {
			bits = append(bits, c>>i&1 == 1)
		}
	}
	for i := range 32 {
		bits[i] = !bits[i]
	}
	const divisor = "100000100110000010001110110110111" // of IEEE 802.3, the highest power first
	for from := range 8 * len(b) {
		if !bits[from] {
			continue
		}
		for i, d := range divisor {
			bits[from+i] = bits[from+i] != (d == '1')
		}
	}
	var rest uint32
	for i, set := range bits[8*len(b):] {
		if !set {
			rest |= 1 << i
		}
	}
	return rest
}

// rows are rows of bytes of many lengths: all of one and two bytes out of those that matter, even ones, and ones that a short rule mixes.
func rows() [][]byte {
	l := [][]byte{nil, {}}
	edges := []byte{0x00, 0x01, 0x7f, 0x80, 0xff}
	for c := range 256 {
		l = append(l, []byte{byte(c)})
	}
	for _, c := range edges {
		for _, d := range edges {
			l = append(l, []byte{c, d})
		}
		for n := range 40 {
			l = append(l, bytes.Repeat([]byte{c}, n))
		}
	}
	for _, n := range []int{1, 2, 3, 4, 5, 7, 8, 9, 31, 32, 33, 64, 255, 256, 257, 1000} {
		l = append(l, mixed(n))
	}
	return l
}

// mixed is n bytes that a short rule mixes.
func mixed(n int) []byte {
	b := make([]byte, n)
	x := uint32(n)
	for i := range b {
		x = x*1664525 + 1013904223
		b[i] = byte(x >> 24)
	}
	return b
}

// sums are numbers that are at an edge, and some between.
func sums() []uint32 {
	l := []uint32{0, 1, 0xff, 0x100, 0xdeadbeef, 0xcbf43926, 0xedb88320, 0x12345678, 0x7fffffff, 0xfffffffe, math.MaxUint32}
	for i := range 32 {
		l = append(l, 1<<i, ^uint32(0)<<i)
	}
	return l
}

// extremes are numbers that no place is.
func extremes() []int {
	return []int{math.MinInt, math.MinInt + 1, math.MinInt32, -5, -4, -3, -2, -1, math.MaxInt32, math.MaxInt - 4, math.MaxInt - 3, math.MaxInt - 1, math.MaxInt}
}

// P2.1

func TestOfKnownBytes(t *testing.T) {
	for _, c := range []struct {
		s    string
		want uint32
	}{
		{"", 0},
		{"a", 0xe8b7be43},
		{"123456789", 0xcbf43926},
		{"\x00", 0xd202ef8d},
		{"\x00\x00\x00\x00", 0x2144df1c},
		{"\xff\xff\xff\xff", 0xffffffff},
		{"\x00\x00\x00\x01a", 0xe58c9792},
		{"The quick brown fox jumps over the lazy dog", 0x414fa339},
		{strings.Repeat("\x00", 32), 0x190a55ad},
		{strings.Repeat("\xff", 32), 0xff6cab0b},
	} {
		if got := sum.Of([]byte(c.s)); got != c.want {
			t.Errorf("Of(%q) = %08x, not %08x", c.s, got, c.want)
		}
	}
	if got := sum.Of(nil); got != 0 {
		t.Errorf("Of(nil) = %08x", got)
	}
}

func TestOfIsTheRestOfADivision(t *testing.T) {
	for _, b := range rows() {
		if got, want := sum.Of(b), sumOf(b); got != want {
			t.Errorf("Of(%x) = %08x, not %08x", b, got, want)
		}
	}
}

func TestOfIsTheLibrarysSum(t *testing.T) {
	for _, b := range append(rows(), mixed(1<<16), mixed(1<<16+3), bytes.Repeat([]byte{0}, 1<<16), mixed(1<<20)) {
		if got, want := sum.Of(b), crc32.ChecksumIEEE(b); got != want {
			t.Errorf("Of %d bytes = %08x, not %08x", len(b), got, want)
		}
	}
}

func TestMoreGoesOn(t *testing.T) {
	for _, b := range [][]byte{nil, []byte("123456789"), mixed(100), make([]byte, 40), bytes.Repeat([]byte{0xff}, 40)} {
		want := sumOf(b)
		for i := range len(b) + 1 {
			if got := sum.More(sum.Of(b[:i]), b[i:]); got != want {
				t.Errorf("More behind %d bytes of %x = %08x, not %08x", i, b, got, want)
			}
			for j := i; j <= len(b); j++ {
				if got := sum.More(sum.More(sum.Of(b[:i]), b[i:j]), b[j:]); got != want {
					t.Errorf("More behind %d and %d bytes of %x = %08x, not %08x", i, j, b, got, want)
				}
			}
		}
	}
	if got := sum.More(sum.Of([]byte("12345")), []byte("6789")); got != 0xcbf43926 {
		t.Errorf("More(Of(12345), 6789) = %08x", got)
	}
}

func TestMoreOfNothingIsTheSum(t *testing.T) {
	for _, s := range sums() {
		if got := sum.More(s, nil); got != s {
			t.Errorf("More(%08x, nil) = %08x", s, got)
		}
		if got := sum.More(s, []byte{}); got != s {
			t.Errorf("More(%08x, nothing) = %08x", s, got)
		}
	}
}

func TestMoreOfAnyNumberTakesTheSameSteps(t *testing.T) {
	for _, s := range sums() {
		for _, b := range rows() {
			if got, want := sum.More(s, b), crc32.Update(s, crc32.IEEETable, b); got != want {
				t.Errorf("More(%08x, %x) = %08x, not %08x", s, b, got, want)
			}
		}
	}
}

// P2.2

func TestPutIsFourBytesTheHighestFirst(t *testing.T) {
	for _, c := range []struct {
		sum  uint32
		want []byte
	}{
		{0, []byte{0, 0, 0, 0}},
		{1, []byte{0, 0, 0, 1}},
		{0x01020304, []byte{1, 2, 3, 4}},
		{0xcbf43926, []byte{0xcb, 0xf4, 0x39, 0x26}},
		{0x80000000, []byte{0x80, 0, 0, 0}},
		{math.MaxUint32, []byte{0xff, 0xff, 0xff, 0xff}},
	} {
		if got := sum.Put(c.sum); !bytes.Equal(got, c.want) {
			t.Errorf("Put(%08x) = %x, not %x", c.sum, got, c.want)
		}
	}
}

func TestGetReadsWhatPutWrites(t *testing.T) {
	for _, want := range sums() {
		form := []byte{byte(want >> 24), byte(want >> 16), byte(want >> 8), byte(want)}
		if got := sum.Put(want); !bytes.Equal(got, form) {
			t.Errorf("Put(%08x) = %x", want, got)
		}
		for _, ahead := range [][]byte{nil, {0xff}, {1, 2, 3, 4, 5}} {
			for _, behind := range [][]byte{nil, {0}, {0xff, 7, 7, 7, 7}} {
				b := bytes.Join([][]byte{ahead, form, behind}, nil)
				if got, e := sum.Get(b, len(ahead)); got != want || e != api.OK {
					t.Errorf("Get(%x, %d) = %08x %d", b, len(ahead), got, e)
				}
			}
		}
	}
}

func TestGetErrors(t *testing.T) {
	for n := range 10 {
		b := bytes.Repeat([]byte{0xee}, n)
		for at := range n + 4 {
			want := api.OK
			switch {
			case at > n:
				want = api.ErrArg
			case n-at < 4:
				want = api.ErrShort
			}
			got, e := sum.Get(b, at)
			if e != want {
				t.Errorf("Get of %d bytes at %d has the error %d, not %d", n, at, e, want)
			}
			if e != api.OK && got != 0 || e == api.OK && got != 0xeeeeeeee {
				t.Errorf("Get of %d bytes at %d = %08x %d", n, at, got, e)
			}
		}
		for _, at := range extremes() {
			if got, e := sum.Get(b, at); got != 0 || e != api.ErrArg {
				t.Errorf("Get of %d bytes at %d = %08x %d", n, at, got, e)
			}
		}
	}
	if got, e := sum.Get(nil, 0); got != 0 || e != api.ErrShort {
		t.Errorf("Get(nil, 0) = %08x %d", got, e)
	}
}

// P2.3

func TestATurnedBitTurnsTheSum(t *testing.T) {
	for _, b := range [][]byte{{0}, {0xff}, {0x80, 0x01}, []byte("123456789"), make([]byte, 300), bytes.Repeat([]byte{0xff}, 300), mixed(300)} {
		before := sum.Of(b)
		for i := range 8 * len(b) {
			b[i/8] ^= 1 << (i % 8)
			if got := sum.Of(b); got == before {
				t.Errorf("of %d bytes with the bit %d turned the sum is %08x too", len(b), i, got)
			}
			b[i/8] ^= 1 << (i % 8)
		}
	}
}

func TestATurnedBitTurnsTheSumOfMore(t *testing.T) {
	for _, s := range sums() {
		b := mixed(20)
		before := sum.More(s, b)
		for i := range 8 * len(b) {
			b[i/8] ^= 1 << (i % 8)
			if got := sum.More(s, b); got == before {
				t.Errorf("behind %08x with the bit %d turned the sum is %08x too", s, i, got)
			}
			b[i/8] ^= 1 << (i % 8)
		}
	}
}

func TestATurnedBitOfALongRowTurnsTheSum(t *testing.T) {
	b := mixed(api.MaxPayload + 4)
	before := sum.Of(b)
	for i := 0; i < 8*len(b); i += 4999 {
		b[i/8] ^= 1 << (i % 8)
		if got := sum.Of(b); got == before {
			t.Errorf("with the bit %d turned the sum is %08x too", i, got)
		}
		b[i/8] ^= 1 << (i % 8)
	}
}

func TestWhatIsHandedInStays(t *testing.T) {
	for _, inside := range [][]byte{nil, {7}, []byte("123456789"), mixed(100)} {
		all := append(bytes.Clone(inside), 0xee, 0x00, 0xff, 0xee, 0xee)
		before := bytes.Clone(all)
		b := all[:len(inside):len(all)]
		sum.Of(b)
		sum.More(7, b)
		for _, at := range append(extremes(), 0, 1, len(b), len(b)+1) {
			sum.Get(b, at)
		}
		if !bytes.Equal(all, before) {
			t.Errorf("%x became %x", before, all)
		}
	}
}

// R4

func TestWhatLiesBehindTheLengthIsNotRead(t *testing.T) {
	all := []byte("123456789abcdef")
	b := all[:9]
	if got := sum.Of(b); got != 0xcbf43926 {
		t.Errorf("Of read on: %08x", got)
	}
	if got := sum.More(sum.Of(b[:5]), b[5:]); got != 0xcbf43926 {
		t.Errorf("More read on: %08x", got)
	}
	for at := 6; at <= 9; at++ {
		if got, e := sum.Get(b, at); got != 0 || e != api.ErrShort {
			t.Errorf("Get at %d read on: %08x %d", at, got, e)
		}
	}
	if got, e := sum.Get(b, 10); got != 0 || e != api.ErrArg {
		t.Errorf("Get took a place behind the length: %08x %d", got, e)
	}
}

func TestNothingThatWasHandedInIsKept(t *testing.T) {
	b := []byte("123456789")
	first := sum.Of(b)
	clear(b)
	if first != 0xcbf43926 || sum.Of(b) == first {
		t.Errorf("Of kept its bytes: %08x, then %08x", first, sum.Of(b))
	}
	if got := sum.Of([]byte("123456789")); got != 0xcbf43926 {
		t.Errorf("Of the same bytes again = %08x", got)
	}
}

func TestWhatIsAnsweredIsNew(t *testing.T) {
	for _, s := range sums() {
		one, two := sum.Put(s), sum.Put(s)
		for i := range one[:cap(one)] {
			one[:cap(one)][i] ^= 0xff
		}
		want := []byte{byte(s >> 24), byte(s >> 16), byte(s >> 8), byte(s)}
		if again := sum.Put(s); !bytes.Equal(two, want) || !bytes.Equal(again, want) {
			t.Errorf("Put(%08x) shares its answer: %x, then %x", s, two, again)
		}
	}
}

// P1, R1, R7, R8

func TestEachCallEndsAtAnyArgument(t *testing.T) {
	for _, b := range rows() {
		for _, at := range append(extremes(), 0, 1, 2, 3, len(b)-4, len(b)-3, len(b)-1, len(b), len(b)+1) {
			got, e := sum.Get(b, at)
			again, eAgain := sum.Get(b, at)
			if got != again || e != eAgain {
				t.Errorf("Get(%x, %d) has two answers", b, at)
			}
			there := at >= 0 && at <= len(b)
			if !there && e != api.ErrArg || there && len(b)-at < 4 && e != api.ErrShort || there && len(b)-at >= 4 && e != api.OK {
				t.Errorf("Get(%x, %d) has the error %d", b, at, e)
			}
		}
		for _, s := range sums() {
			if first, again := sum.More(s, b), sum.More(s, b); first != again {
				t.Errorf("More(%08x, %x) has two answers", s, b)
			}
		}
		if first, again := sum.Of(b), sum.Of(b); first != again {
			t.Errorf("Of(%x) has two answers", b)
		}
	}
}
