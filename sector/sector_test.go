package sector_test

import (
	"encoding/binary"
	"fmt"
	"math"
	"math/rand"
	"slices"
	"strings"
	"testing"
	"unsafe"

	"cloisonne/api"
	"cloisonne/sector"
)

const (
	first = 193 // a sector's first byte
	head  = 14  // bytes ahead of the data
)

func long(n int) string { return strings.Repeat("x", n) }

// mixed has n bytes; any two that stand as far apart as parts do differ.
func mixed(n int) string {
	b := make([]byte, n)
	for i := range b {
		b[i] = byte(i ^ i/api.MaxData)
	}
	return string(b)
}

// filled is bytes, and noughts behind them, n in all.
func filled(s string, n int) string { return s + strings.Repeat("\x00", n-len(s)) }

// with is bytes of which one is another one.
func with(s string, at int, c byte) string { return s[:at] + string([]byte{c}) + s[at+1:] }

// stamp has a field for each number.
func stamp(gen, index, life, part, parts int) api.Stamp {
	return api.Stamp{Gen: gen, Index: index, Life: life, Part: part, Parts: parts}
}

// may tells whether a stamp may be, as the words say.
func may(x api.Stamp) bool {
	return x.Gen >= 1 && x.Gen <= 2147483647 && x.Life >= 1 && x.Life <= 2147483647 &&
		x.Index >= 0 && x.Index <= 127 && x.Parts >= 1 && x.Parts <= 128 && x.Part >= 0 && x.Part < x.Parts
}

// laid is the sector of a stamp and data that may be, as the words say.
func laid(x api.Stamp, data string) string {
	b := []byte{first}
	b = binary.BigEndian.AppendUint32(b, uint32(x.Gen))
	b = binary.BigEndian.AppendUint16(b, uint16(x.Index))
	b = binary.BigEndian.AppendUint32(b, uint32(x.Life))
	b = append(b, byte(x.Part), byte(x.Parts), byte(len(data)))
	return filled(string(b)+data, 64)
}

// told tells the stamp and the data of a sector, as the words say; false, if it is none's.
func told(s string) (api.Stamp, string, bool) {
	b := []byte(s)
	if len(b) != 64 || b[0] != first || b[13] > 50 {
		return api.Stamp{}, "", false
	}
	x := stamp(int(binary.BigEndian.Uint32(b[1:])), int(binary.BigEndian.Uint16(b[5:])), int(binary.BigEndian.Uint32(b[7:])), int(b[11]), int(b[12]))
	end := head + int(b[13])
	for _, c := range b[end:] {
		if c != 0 {
			return api.Stamp{}, "", false
		}
	}
	if !may(x) {
		return api.Stamp{}, "", false
	}
	return x, string(b[head:end]), true
}

// gens has what a Gen, or a Life, may be, at its ends and between; and what it may not be.
func gens() ([]int, []int) {
	return []int{1, 2, 127, 128, 255, 256, 258, 65535, 65536, 1 << 24, 0x01020304, 0x7EFDFCFB, 1 << 30, math.MaxInt32 - 1, math.MaxInt32},
		[]int{0, -1, -2, -255, math.MinInt32, math.MinInt, 1 << 31, 1<<31 + 1, math.MaxUint32, 1 << 32, 1<<32 + 1, 1 << 40, math.MaxInt - 1, math.MaxInt}
}

// indexes has what an Index may be, at its ends and between; and what it may not be.
func indexes() ([]int, []int) {
	return []int{0, 1, 2, 63, 64, 100, 126, 127},
		[]int{-1, -2, -127, -128, math.MinInt32, math.MinInt, 128, 129, 255, 256, 257, 1<<16 - 1, 1 << 16, 1<<16 + 1, 1 << 32, math.MaxInt}
}

// places has pairs of Part and Parts that may be, at their ends and between; and pairs that may not be.
func places() ([][2]int, [][2]int) {
	return [][2]int{{0, 1}, {0, 2}, {1, 2}, {0, 3}, {1, 3}, {2, 3}, {0, 127}, {126, 127}, {0, 128}, {1, 128}, {64, 128}, {126, 128}, {127, 128}},
		[][2]int{
			{0, 0}, {-1, 0}, {1, 0}, {0, -1}, {-1, -1}, {-2, -1}, {0, math.MinInt}, {math.MinInt, math.MinInt}, {math.MaxInt, math.MinInt}, {5, math.MinInt}, // Parts below
			{0, 129}, {128, 129}, {0, 130}, {0, 255}, {0, 256}, {0, 257}, {1, 258}, {0, 1 << 32}, {0, 1<<32 + 1}, {0, math.MaxInt}, {math.MaxInt - 1, math.MaxInt}, // Parts above
			{-1, 1}, {1, 1}, {2, 1}, {-1, 2}, {2, 2}, {3, 2}, {-1, 128}, {128, 128}, {129, 128}, {256, 128}, {255, 1}, {256, 1}, {257, 2}, {1 << 32, 1}, {math.MinInt, 1}, {math.MaxInt, 128}, // Part below, and above
		}
}

// stamps has some that may be: each field at its ends, others between.
func stamps() []api.Stamp {
	most := stamp(math.MaxInt32, 127, math.MaxInt32, 127, 128)
	return []api.Stamp{
		stamp(1, 0, 1, 0, 1), most, stamp(258, 3, 7, 1, 2), stamp(0x01020304, 5, 0x06070809, 10, 11),
		stamp(math.MaxInt32, 0, 1, 0, 1), stamp(1, 127, 1, 0, 1), stamp(1, 0, math.MaxInt32, 0, 1), stamp(1, 0, 1, 0, 128), stamp(1, 0, 1, 127, 128),
		stamp(1, 127, math.MaxInt32, 127, 128), stamp(math.MaxInt32, 0, math.MaxInt32, 127, 128), stamp(math.MaxInt32, 127, 1, 127, 128), stamp(math.MaxInt32, 127, math.MaxInt32, 0, 128), stamp(math.MaxInt32, 127, math.MaxInt32, 0, 1),
		stamp(first, 77, first<<24>>1, 0, 2), stamp(256, 1, 65536, 1, 3), stamp(255, 64, 1<<24, 2, 3), stamp(0x7FFFFF00, 126, 0x7F00FFFF, 63, 64),
	}
}

// datas has bytes of a sector: of no bytes, of MaxData, of noughts and first bytes at any end.
func datas() []string {
	return []string{
		"", "a", "abc", long(api.MaxData - 1), long(api.MaxData), mixed(api.MaxData),
		"\x00", "\x00\x00", "a\x00", "\x00a", "a\x00b", "a\x00\x00", "\x00a\x00", filled("", api.MaxData-1), filled("", api.MaxData), filled("a", api.MaxData), filled("", api.MaxData-1) + "a",
		"\xc1", "\xc1\x00", "\x00\xc1", "a\xc1", strings.Repeat("\xc1", api.MaxData), "\xff", strings.Repeat("\xff", api.MaxData), "\xc3\x96l", laid(stamp(1, 0, 1, 0, 1), "")[:api.MaxData],
	}
}

// wrongs has stamps that may not be: in each of them one field is beyond an end.
func wrongs() []api.Stamp {
	_, wrongGens := gens()
	_, wrongIndexes := indexes()
	_, wrongPlaces := places()
	var l []api.Stamp
	for _, n := range wrongGens {
		l = append(l, stamp(n, 3, 7, 1, 2), stamp(5, 3, n, 1, 2))
	}
	for _, n := range wrongIndexes {
		l = append(l, stamp(5, n, 7, 1, 2))
	}
	for _, p := range wrongPlaces {
		l = append(l, stamp(5, 3, 7, p[0], p[1]))
	}
	return append(l, api.Stamp{})
}

// packs checks what a stamp and data come to, and that it comes back.
func packs(t *testing.T, x api.Stamp, data string) {
	t.Helper()
	want := laid(x, data)
	if s, err := sector.Pack(x, data); s != want || err != api.OK {
		t.Fatalf("%+v, %q: packed %x, %d, not %x", x, data, s, err, want)
	}
	if y, d, err := sector.Unpack(want); y != x || d != data || err != api.OK {
		t.Fatalf("%+v, %q: unpacked %+v, %q, %d", x, data, y, d, err)
	}
}

// refuses checks that a stamp and data come to an error.
func refuses(t *testing.T, x api.Stamp, data string, want api.Errno) {
	t.Helper()
	if s, err := sector.Pack(x, data); s != "" || err != want {
		t.Fatalf("%+v, %d bytes: packed %x, %d, not %d", x, len(data), s, err, want)
	}
}

// unpacks checks what bytes come to, and that it comes back, if it is something.
func unpacks(t *testing.T, s string) {
	t.Helper()
	x, data, is := told(s)
	if !is {
		none(t, s)
		return
	}
	if y, d, err := sector.Unpack(s); y != x || d != data || err != api.OK {
		t.Fatalf("%x: %+v, %q, %d, not %+v, %q", s, y, d, err, x, data)
	}
	if back, err := sector.Pack(x, data); back != s || err != api.OK {
		t.Fatalf("%x: packed again %x, %d", s, back, err)
	}
}

// none checks that bytes are none's sector.
func none(t *testing.T, s string) {
	t.Helper()
	if x, data, err := sector.Unpack(s); x != (api.Stamp{}) || data != "" || err != api.ErrForm {
		t.Fatalf("%x: %+v, %q, %d, not ErrForm", s, x, data, err)
	}
}

// P6.1

func TestRightAtTheEnds(t *testing.T) {
	for _, x := range stamps() {
		if !sector.Right(x) {
			t.Errorf("%+v may be", x)
		}
	}
	for _, x := range wrongs() {
		if sector.Right(x) {
			t.Errorf("%+v may not be", x)
		}
		refuses(t, x, "", api.ErrArg)
	}
}

// TestRightOfAllTogether goes through all fields at all their ends, so that no field is looked at only where another one is something.
func TestRightOfAllTogether(t *testing.T) {
	rightGens, wrongGens := gens()
	rightIndexes, wrongIndexes := indexes()
	rightPlaces, wrongPlaces := places()
	allGens := slices.Concat(rightGens, wrongGens)
	for _, gen := range allGens {
		for _, life := range allGens {
			for _, index := range slices.Concat(rightIndexes, wrongIndexes) {
				for _, place := range slices.Concat(rightPlaces, wrongPlaces) {
					x := stamp(gen, index, life, place[0], place[1])
					if sector.Right(x) != may(x) {
						t.Fatalf("%+v", x)
					}
				}
			}
		}
	}
}

func TestRightOfAllPartsAndIndexes(t *testing.T) {
	for parts := -300; parts <= 300; parts++ {
		for part := -300; part <= 300; part++ {
			if x := stamp(1, 0, 1, part, parts); sector.Right(x) != may(x) {
				t.Fatalf("%+v", x)
			}
		}
	}
	for n := -70000; n <= 70000; n++ {
		if x := stamp(1, n, 1, 0, 1); sector.Right(x) != (n >= 0 && n <= 127) {
			t.Fatalf("%+v", x)
		}
		if x := stamp(n, 0, 1, 0, 1); sector.Right(x) != (n >= 1) {
			t.Fatalf("%+v", x)
		}
		if x := stamp(1, 0, n, 0, 1); sector.Right(x) != (n >= 1) {
			t.Fatalf("%+v", x)
		}
	}
}

func TestPackByteByByte(t *testing.T) {
	for _, c := range []struct {
		x    api.Stamp
		data string
		want string
	}{
		{stamp(1, 0, 1, 0, 1), "", "\xc1\x00\x00\x00\x01\x00\x00\x00\x00\x00\x01\x00\x01\x00"},
		{stamp(258, 3, 7, 1, 2), "abc", "\xc1\x00\x00\x01\x02\x00\x03\x00\x00\x00\x07\x01\x02\x03abc"},
		{stamp(0x01020304, 5, 0x06070809, 10, 11), "\x00", "\xc1\x01\x02\x03\x04\x00\x05\x06\x07\x08\x09\x0a\x0b\x01\x00"},
		{stamp(math.MaxInt32, 127, math.MaxInt32, 127, 128), long(50), "\xc1\x7f\xff\xff\xff\x00\x7f\x7f\xff\xff\xff\x7f\x80\x32" + long(50)},
		{stamp(256, 64, 1<<24, 0, 128), "\xc1", "\xc1\x00\x00\x01\x00\x00\x40\x01\x00\x00\x00\x00\x80\x01\xc1"},
	} {
		want := filled(c.want, 64)
		if s, err := sector.Pack(c.x, c.data); s != want || err != api.OK {
			t.Errorf("%+v, %q: %x, %d, not %x", c.x, c.data, s, err, want)
		}
		if x, data, err := sector.Unpack(want); x != c.x || data != c.data || err != api.OK {
			t.Errorf("%x: %+v, %q, %d", want, x, data, err)
		}
	}
}

func TestPackOfStampsAndData(t *testing.T) {
	rightGens, _ := gens()
	rightIndexes, _ := indexes()
	rightPlaces, _ := places()
	for _, data := range datas() {
		for _, x := range stamps() {
			packs(t, x, data)
		}
		for _, n := range rightGens {
			packs(t, stamp(n, 1, 2, 3, 4), data)
			packs(t, stamp(1, 2, n, 3, 4), data)
		}
		for _, n := range rightIndexes {
			packs(t, stamp(1, n, 2, 3, 4), data)
		}
		for _, p := range rightPlaces {
			packs(t, stamp(1, 2, 3, p[0], p[1]), data)
		}
	}
}

func TestPackOfAllIndexesAndParts(t *testing.T) {
	for n := range api.MaxSectors {
		packs(t, stamp(1, n, 1, 0, 1), "a")
		for part := range n + 1 {
			packs(t, stamp(1, 0, 1, part, n+1), "a")
		}
	}
}

func TestPackOfAllBytes(t *testing.T) {
	x := stamp(3, 2, 1, 0, 1)
	for c := range 256 {
		one := string([]byte{byte(c)})
		for _, data := range []string{one, "a" + one, one + "a", "\x00" + one + "\x00", strings.Repeat(one, api.MaxData)} {
			packs(t, x, data)
		}
	}
}

func TestPackOfAllLengths(t *testing.T) {
	for _, x := range stamps() {
		for n := range api.MaxData + 1 {
			packs(t, x, mixed(n))
			packs(t, x, filled("", n))
		}
		for n := api.MaxData + 1; n <= 700; n++ {
			refuses(t, x, mixed(n), api.ErrLong)
			refuses(t, x, filled("", n), api.ErrLong)
		}
		for _, n := range []int{1 << 10, 1<<10 + api.MaxData, 1 << 16, 1<<16 + 1, 1 << 20} {
			refuses(t, x, long(n), api.ErrLong)
		}
	}
}

func TestPackTellsAWrongStampAheadOfLongData(t *testing.T) {
	for _, x := range wrongs() {
		for _, n := range []int{0, 1, api.MaxData, api.MaxData + 1, 64, 255, 256, 5000} {
			refuses(t, x, long(n), api.ErrArg)
		}
	}
}

func TestUnpackOfAllLengths(t *testing.T) {
	for _, x := range stamps() {
		for _, data := range datas() {
			s := laid(x, data)
			for n := range 200 {
				if n == api.SectorBytes {
					continue
				}
				none(t, filled(s, 256)[:n])
				none(t, (s + s + s + s)[:n])
				none(t, (s + long(256))[:n])
			}
			none(t, "\x00"+s)
			none(t, s[1:])
			none(t, "\x00"+s[:api.SectorBytes-1])
			none(t, s[1:]+"\x00")
		}
	}
	for n := range 200 {
		none(t, strings.Repeat("\xc1", n))
		none(t, strings.Repeat("\x00", n))
	}
}

// TestUnpackOfAllBytesAtAllPlaces puts each byte at each place of sectors: wrong first bytes, stamps that may not be, too great counts and bytes behind the data are among them, and others that may be.
func TestUnpackOfAllBytesAtAllPlaces(t *testing.T) {
	var l []string
	for _, x := range stamps() {
		l = append(l, laid(x, "abc"))
	}
	for _, data := range datas() {
		l = append(l, laid(stamps()[1], data), laid(stamps()[2], data))
	}
	for _, s := range l {
		for at := range len(s) {
			for c := range 256 {
				unpacks(t, with(s, at, byte(c)))
			}
		}
	}
}

func TestUnpackOfWrongFirstBytes(t *testing.T) {
	s := laid(stamp(258, 3, 7, 1, 2), "abc")
	for c := range 256 {
		if c != first {
			none(t, with(s, 0, byte(c)))
		}
	}
}

func TestUnpackOfStampsThatMayNotBe(t *testing.T) {
	const data = "abc"
	for n := range 1 << 16 {
		if x := stamp(1, n, 1, 0, 1); n > 127 {
			none(t, laid(x, data))
		} else {
			packs(t, x, data)
		}
	}
	for _, n := range []int{0, 1 << 31, 1<<31 + 1, 0x80FFFFFF, 0xC1000001, math.MaxUint32 - 1, math.MaxUint32} {
		none(t, laid(stamp(n, 3, 7, 1, 2), data))
		none(t, laid(stamp(5, 3, n, 1, 2), data))
	}
	for parts := range 256 {
		for part := range 256 {
			x := stamp(5, 3, 7, part, parts)
			if part < parts && parts <= 128 {
				packs(t, x, data)
				continue
			}
			none(t, laid(x, data))
			none(t, laid(x, ""))
		}
	}
}

func TestUnpackOfAllCounts(t *testing.T) {
	for _, body := range []string{"", "\x01", "abc", long(api.MaxData), filled("", api.MaxData-1) + "\x01"} {
		s := laid(stamp(258, 3, 7, 1, 2), filled(body, api.MaxData))
		for n := range 256 {
			counted := with(s, head-1, byte(n))
			if n > api.MaxData || n < len(body) {
				none(t, counted)
				continue
			}
			x, data, err := sector.Unpack(counted)
			if x != stamp(258, 3, 7, 1, 2) || data != filled(body, n) || err != api.OK {
				t.Fatalf("a count of %d: %+v, %q, %d", n, x, data, err)
			}
		}
	}
}

func TestUnpackOfBytesBehindTheData(t *testing.T) {
	for n := range api.MaxData {
		s := laid(stamp(258, 3, 7, 1, 2), long(n))
		for at := head + n; at < api.SectorBytes; at++ {
			for _, c := range []byte{1, '0', ' ', 'x', 0x80, first, 0xff} {
				none(t, with(s, at, c))
				none(t, with(with(s, at, c), api.SectorBytes-1, c))
			}
		}
		none(t, s[:head+n]+long(api.MaxData-n))
	}
}

// P6.2

func TestParts(t *testing.T) {
	for _, c := range []struct {
		s    string
		want []string
	}{
		{"", []string{""}},
		{"a", []string{"a"}},
		{"\x00", []string{"\x00"}},
		{long(49), []string{long(49)}},
		{long(50), []string{long(50)}},
		{long(50) + "b", []string{long(50), "b"}},
		{long(50) + "\x00", []string{long(50), "\x00"}},
		{filled("", 50) + "b", []string{filled("", 50), "b"}},
		{long(50) + mixed(50), []string{long(50), mixed(50)}},
		{long(50) + mixed(50) + "\xc1", []string{long(50), mixed(50), "\xc1"}},
		{strings.Repeat("ö", 50), []string{strings.Repeat("ö", 25), strings.Repeat("ö", 25)}}, // bytes count, not letters
		{"a" + strings.Repeat("ö", 25), []string{"a" + strings.Repeat("ö", 24) + "\xc3", "\xb6"}},
	} {
		if l := sector.Parts(c.s); !slices.Equal(l, c.want) {
			t.Errorf("%q: %q", c.s, l)
		}
	}
}

// cut checks the parts of bytes: as long as told, and in their order.
func cut(t *testing.T, s string) {
	t.Helper()
	l := sector.Parts(s)
	if len(l) != sector.Count(len(s)) || strings.Join(l, "") != s {
		t.Fatalf("%d bytes: %d parts, of %d counted", len(s), len(l), sector.Count(len(s)))
	}
	for i, part := range l {
		switch last := i == len(l)-1; {
		case !last && len(part) != 50, last && len(part) > 50, last && part == "" && s != "":
			t.Fatalf("%d bytes: part %d of %d has %d", len(s), i, len(l), len(part))
		}
	}
}

func TestPartsOfAllLengths(t *testing.T) {
	for n := range 2000 {
		cut(t, mixed(n))
		cut(t, filled("", n))
		cut(t, strings.Repeat("\xc1", n))
	}
	for _, times := range []int{126, 127, 128, 129, 255, 256, 257, 10000} {
		for _, more := range []int{-1, 0, 1} {
			cut(t, mixed(times*api.MaxData+more))
		}
	}
}

func TestCount(t *testing.T) {
	for n, want := range map[int]int{
		math.MinInt: 0, math.MinInt + 1: 0, math.MinInt32: 0, -101: 0, -100: 0, -51: 0, -50: 0, -49: 0, -2: 0, -1: 0,
		0: 1, 1: 1, 2: 1, 49: 1, 50: 1, 51: 2, 52: 2, 99: 2, 100: 2, 101: 3, 149: 3, 150: 3, 151: 4,
		6350: 127, 6351: 128, 6400: 128, 6401: 129, math.MaxInt32: 42949673,
		math.MaxInt - 8: 184467440737095516, math.MaxInt - 7: 184467440737095516, math.MaxInt - 6: 184467440737095517, math.MaxInt - 1: 184467440737095517, math.MaxInt: 184467440737095517,
	} {
		if count := sector.Count(n); count != want {
			t.Errorf("Count of %d: %d, not %d", n, count, want)
		}
	}
}

func TestCountOfAllNumbers(t *testing.T) {
	for n := -1000; n <= 0; n++ {
		if want := max(n+1, 0); sector.Count(n) != want {
			t.Fatalf("Count of %d: %d", n, sector.Count(n))
		}
	}
	for full := range 1000 {
		for n := full*50 + 1; n <= full*50+50; n++ {
			if sector.Count(n) != full+1 {
				t.Fatalf("Count of %d: %d", n, sector.Count(n))
			}
		}
	}
}

// P6.3

// spread has a stamp that may be, from all over.
func spread(r *rand.Rand) api.Stamp {
	parts := 1 + r.Intn(128)
	return stamp(1+r.Intn(math.MaxInt32)>>r.Intn(31), r.Intn(128), 1+r.Intn(math.MaxInt32)>>r.Intn(31), r.Intn(parts), parts)
}

// sprinkled has n bytes, noughts and first bytes often among them.
func sprinkled(r *rand.Rand, n int) string {
	b := make([]byte, n)
	for i := range b {
		b[i] = []byte{0, first, byte(r.Intn(256))}[r.Intn(3)]
	}
	return string(b)
}

func TestWhatIsPackedIsUnpacked(t *testing.T) {
	r := rand.New(rand.NewSource(6))
	for range 50000 {
		packs(t, spread(r), sprinkled(r, r.Intn(api.MaxData+1)))
	}
}

func TestWhatIsUnpackedIsPacked(t *testing.T) {
	r := rand.New(rand.NewSource(63))
	right := 0
	for range 50000 {
		s := laid(spread(r), sprinkled(r, r.Intn(api.MaxData+1)))
		for range r.Intn(4) {
			s = with(s, r.Intn(len(s)), sprinkled(r, 1)[0])
		}
		unpacks(t, s)
		if _, _, is := told(s); is {
			right++
		}
		unpacks(t, sprinkled(r, r.Intn(130)))
		unpacks(t, "\xc1"+sprinkled(r, api.SectorBytes-1))
	}
	if right < 12500 || right > 37500 {
		t.Errorf("%d sectors are someone's: the walk looks at one kind alone", right)
	}
}

func TestARecordInSectors(t *testing.T) {
	r := rand.New(rand.NewSource(64))
	for n := 0; n <= api.MaxSectors*api.MaxData; n += 1 + n/20 {
		s := sprinkled(r, n)
		var told strings.Builder
		parts := sector.Parts(s)
		for i, part := range parts {
			x := stamp(1+n, i, 1, i, len(parts))
			packs(t, x, part)
			bytes, _ := sector.Pack(x, part)
			_, data, _ := sector.Unpack(bytes)
			told.WriteString(data)
		}
		if told.String() != s {
			t.Fatalf("%d bytes come back as %d", n, told.Len())
		}
	}
}

// What is answered is new memory, and hangs on nothing else than what is handed in (rules 3 and 4).

func shares(a, b string) bool {
	from, to := uintptr(unsafe.Pointer(unsafe.StringData(a))), uintptr(unsafe.Pointer(unsafe.StringData(b)))
	return a != "" && b != "" && from < to+uintptr(len(b)) && to < from+uintptr(len(a))
}

func TestAnswersAreNewMemory(t *testing.T) {
	data := mixed(api.MaxData)
	s, _ := sector.Pack(stamp(1, 0, 1, 0, 1), data)
	if shares(s, data) {
		t.Error("what is packed shares what was handed in")
	}
	if _, d, _ := sector.Unpack(s); shares(d, s) {
		t.Error("what is unpacked shares what was handed in")
	}
	for _, n := range []int{1, api.MaxData, api.MaxData + 1, 3 * api.MaxData} {
		s := mixed(n)
		l := sector.Parts(s)
		for i, part := range l {
			if shares(part, s) {
				t.Errorf("part %d of %d bytes shares what was handed in", i, n)
			}
			for j := range i {
				if shares(part, l[j]) {
					t.Errorf("parts %d and %d of %d bytes share", i, j, n)
				}
			}
		}
		again := sector.Parts(s)
		spare := l[:cap(l)]
		for i := range spare {
			spare[i] = "y"
		}
		if !slices.Equal(again, sector.Parts(s)) || strings.Join(again, "") != s {
			t.Errorf("two lists of the parts of %d bytes share", n)
		}
	}
}

func ExampleCount() {
	fmt.Println(sector.Count(50), sector.Count(51), sector.Count(0), sector.Count(-1))
	// Output: 1 2 1 0
}

func ExamplePack() {
	s, err := sector.Pack(api.Stamp{Gen: 258, Index: 3, Life: 7, Part: 1, Parts: 2}, "abc")
	fmt.Printf("%x %d %d\n", s[:17], len(s), err)
	// Output: c100000102000300000007010203616263 64 0
}

func ExampleParts() {
	fmt.Printf("%q\n", sector.Parts(strings.Repeat("a", 50)+"b"))
	// Output: ["aaaaaaaaaaaaaaaaaaaaaaaaaaaaaaaaaaaaaaaaaaaaaaaaaa" "b"]
}
