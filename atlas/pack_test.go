package atlas_test

import (
	"fmt"
	"math"
	"testing"

	"shelfmark/api"
	"shelfmark/atlas"
	"shelfmark/sample"
)

// P12.4

func checkPack(t *testing.T, m api.Map, want string, e api.Errno) {
	t.Helper()
	if got, gotErr := atlas.Pack(m); got != want || gotErr != e {
		t.Errorf("Pack(%s) = %.60x, %d, not %.60x, %d", name(m), got, gotErr, want, e)
	}
}

func checkUnpack(t *testing.T, s string, want api.Map, e api.Errno) {
	t.Helper()
	got, gotErr := atlas.Unpack(s)
	checkMap(t, fmt.Sprintf("Unpack of %d bytes %.60x", len(s), s), got, gotErr, want, e)
}

func TestPackIsTheForms(t *testing.T) {
	for _, c := range []struct {
		m    api.Map
		want string
	}{
		{all(1, 2), "\x01\x01\x00\x02"},
		{all(300, 4), "\xac\x02\x01\x00\x04"},
		{mapOf(2, part("", 2), part("m", 3)), "\x02\x02\x00\x02\x01m\x03"},
		{mapOf(127, part("", 1), part("\x00", 1), part("ä", 4)), "\x7f\x03\x00\x01\x01\x00\x01\x02ä\x04"},
		{mapOf(lastEpoch, part("", 1), part(long(mostBytes), 3)), "\x80\x80\x80\x80\x80\x20\x02\x00\x01\x64" + long(mostBytes) + "\x03"},
	} {
		checkPack(t, c.m, c.want, api.OK)
	}
}

func TestPackAndUnpackOfAllMaps(t *testing.T) {
	for _, m := range rightMaps() {
		checkPack(t, m, formOf(m), api.OK)
		checkUnpack(t, formOf(m), m, api.OK)
	}
	for _, f := range wrongMaps() {
		checkPack(t, f.m, "", f.e)
	}
}

func TestUnpackOfWhatIsCutOff(t *testing.T) {
	for _, m := range rightMaps() {
		s := formOf(m)
		for n := range len(s) {
			checkUnpack(t, s[:n], api.Map{}, api.ErrShort)
		}
	}
}

func TestUnpackOfWhatHasSomethingLeft(t *testing.T) {
	for _, m := range rightMaps() {
		s := formOf(m)
		for _, behind := range []string{"\x00", "\x01", "\x80", "\xff\xff", s} {
			checkUnpack(t, s+behind, api.Map{}, api.ErrForm)
		}
	}
}

func TestUnpackOfWhatIsNoRightMap(t *testing.T) {
	for _, f := range wrongMaps() {
		// Of numbers below 0 there are no forms; what is too long or too many is found as it is read.
		s := formOf(f.m)
		want := unpackError(s)
		checkUnpack(t, s, api.Map{}, want)
		if want == api.OK {
			t.Errorf("%s has the form of a right map", name(f.m))
		}
	}
}

func TestUnpackErrorsInTheirOrder(t *testing.T) {
	const nine = "\xff\xff\xff\xff\xff\xff\xff\xff\xff"
	most := sample.NumForm(math.MaxInt)
	tooLong := sample.NumForm(mostBytes + 1)
	for _, c := range []struct {
		s string
		e api.Errno
	}{
		// The epoch.
		{"", api.ErrShort},
		{"\x80", api.ErrShort},
		{"\x80\x00", api.ErrForm},
		{"\x81\x00\x01\x00\x01", api.ErrForm},
		{nine, api.ErrForm},
		{nine + "\x01\x01\x00\x01", api.ErrForm},
		{nine[1:], api.ErrShort},
		// How many parts.
		{"\x01", api.ErrShort},
		{"\x01\x80", api.ErrShort},
		{"\x01\x81\x00\x00\x01", api.ErrForm},
		{"\x01" + nine, api.ErrForm},
		{"\x01\x09", api.ErrLarge},
		{"\x00\x09", api.ErrLarge},
		{"\x01\x09\x80\x00", api.ErrLarge},
		{"\x01\x09" + formOf(mapOf(1, rising(9)...))[2:], api.ErrLarge},
		{"\x01" + most, api.ErrLarge},
		{most + most, api.ErrLarge},
		{"\x01\x08", api.ErrShort},
		// A Lo.
		{"\x01\x01", api.ErrShort},
		{"\x01\x01\x80", api.ErrShort},
		{"\x01\x01\x80\x00\x01", api.ErrForm},
		{"\x01\x01\x01", api.ErrShort},
		{"\x01\x01\x02a", api.ErrShort},
		{"\x01\x01" + tooLong, api.ErrLarge},
		{"\x01\x01" + tooLong + long(mostBytes+1) + "\x01", api.ErrLarge},
		{"\x01\x01" + most, api.ErrLarge},
		{"\x01\x01" + sample.NumForm(mostBytes), api.ErrShort},
		{"\x01\x01" + sample.NumForm(mostBytes) + long(mostBytes-1), api.ErrShort},
		{"\x01\x01" + sample.NumForm(mostBytes) + long(mostBytes), api.ErrShort},
		{"\x01\x01" + sample.NumForm(mostBytes) + long(mostBytes) + "\x01", api.ErrPlan},
		// A Node.
		{"\x01\x01\x00", api.ErrShort},
		{"\x01\x01\x00\x80", api.ErrShort},
		{"\x01\x01\x00\x81\x00", api.ErrForm},
		{"\x01\x01\x00" + nine, api.ErrForm},
		// Part by part: what is wrong with a later one, or missing, comes behind an earlier one's faults, and ahead of what no map may have.
		{"\x01\x02\x00\x01", api.ErrShort},
		{"\x01\x02\x00\x81\x00" + tooLong, api.ErrForm},
		{"\x01\x02" + tooLong + "\x81\x00", api.ErrLarge},
		{"\x01\x02\x02a", api.ErrShort},
		{"\x00\x02\x01a\x09\x80\x00", api.ErrForm},
		{"\x00\x02\x01a\x09" + tooLong, api.ErrLarge},
		{"\x00\x02\x01a\x09\x00", api.ErrShort},
		// Left: ahead of what no map may have.
		{"\x00\x00\x00", api.ErrForm},
		{"\x01\x00\x00", api.ErrForm},
		{"\x01\x00\x80", api.ErrForm},
		{"\x00\x01\x00\x01\x00", api.ErrForm},
		{"\x01\x01\x00\x05\x00", api.ErrForm},
		{"\x01\x01\x01a\x01\x00", api.ErrForm},
		{most + "\x01\x00\x01\x00", api.ErrForm},
		// No right map: the epoch first.
		{"\x00\x00", api.ErrArg},
		{"\x00\x01\x00\x01", api.ErrArg},
		{"\x00\x01\x00\x00", api.ErrArg},
		{sample.NumForm(lastEpoch+1) + "\x01\x00\x01", api.ErrArg},
		{sample.NumForm(lastEpoch+1) + "\x01\x01a\x05", api.ErrArg},
		{most + "\x00", api.ErrArg},
		{"\x01\x00", api.ErrPlan},
		{sample.NumForm(lastEpoch) + "\x00", api.ErrPlan},
		{"\x01\x01\x00\x00", api.ErrPlan},
		{"\x01\x01\x00\x05", api.ErrPlan},
		{"\x01\x01\x00" + most, api.ErrPlan},
		{"\x01\x01\x01a\x01", api.ErrPlan},
		{"\x01\x02\x00\x01\x00\x01", api.ErrPlan},
		{"\x01\x03\x00\x01\x01b\x01\x01a\x01", api.ErrPlan},
		{"\x01\x03\x00\x01\x01a\x01\x01a\x02", api.ErrPlan},
	} {
		checkUnpack(t, c.s, api.Map{}, c.e)
	}
}

// checkUnpackAsAsked asks for the error of a text, or for the map whose form it is.
func checkUnpackAsAsked(t *testing.T, s string) {
	t.Helper()
	m, e := atlas.Unpack(s)
	checkErr(t, fmt.Sprintf("Unpack(%.60x)", s), e, unpackError(s))
	if e != api.OK {
		checkMap(t, fmt.Sprintf("Unpack(%.60x)", s), m, e, api.Map{}, e)
		return
	}
	if wrongWith(m) != api.OK || formOf(m) != s {
		t.Errorf("Unpack(%.60x) = %s", s, name(m))
	}
	checkPack(t, m, s, api.OK)
}

func TestUnpackOfAllShortTexts(t *testing.T) {
	for _, b := range sample.Lists(7, 0, 1, 2, 'a', byte(0x80)) {
		checkUnpackAsAsked(t, string(b))
	}
}

func TestUnpackOfWhatDiceTurn(t *testing.T) {
	d := sample.Dice(124)
	for range 30000 {
		m := thrown(&d)
		b := []byte(formOf(m))
		for range d.Below(3) {
			b[d.Below(len(b))] = sample.Pick(&d, []byte{0, 1, 2, 4, 5, 9, 'a', 0x7f, 0x80, 0xff})
		}
		checkUnpackAsAsked(t, string(b))
	}
}
