package label_test

import (
	"bytes"
	"encoding/binary"
	"fmt"
	"math"
	"math/bits"
	"slices"
	"testing"

	"cloisonne/api"
	"cloisonne/label"
)

const (
	least    = 1
	greatest = math.MaxUint64
)

// universe has the tags of the tests that go through all labels: more than MaxTags, the ends, and neighbours that differ in one byte alone.
func universe() []uint64 {
	return []uint64{least, 2, 3, 0xFF, 0x100, 0x8000000000000000, greatest - 1, greatest}
}

// setOf has the tags of the universe whose bits are in mask, rising.
func setOf(mask int) []uint64 {
	l := []uint64{}
	for i, tag := range universe() {
		if mask&(1<<i) != 0 {
			l = append(l, tag)
		}
	}
	return l
}

func count(mask int) int {
	return bits.OnesCount(uint(mask))
}

// masks has all masks of the universe whose sets are labels.
func masks() []int {
	var l []int
	for mask := range 1 << len(universe()) {
		if count(mask) <= api.MaxTags {
			l = append(l, mask)
		}
	}
	return l
}

// lists has all lists of up to most items, each one of some.
func lists(most int, some ...uint64) [][]uint64 {
	all := [][]uint64{nil}
	for from := 0; most > 0; most-- {
		to := len(all)
		for _, l := range all[from:to] {
			for _, tag := range some {
				all = append(all, append(slices.Clone(l), tag))
			}
		}
		from = to
	}
	return all
}

// wrong has lists that are no labels.
func wrong() [][]uint64 {
	return [][]uint64{
		{0}, {0, 1}, {1, 0}, {0, 0}, {1, 2, 0}, {greatest, 0},
		{1, 1}, {2, 1}, {1, 3, 2}, {1, 2, 2}, {greatest, greatest}, {greatest, least}, {1, 2, 3, 4, 6, 5}, {2, 1, 3, 4, 5, 6},
		{1, 2, 3, 4, 5, 6, 7}, {1, 2, 3, 4, 5, 6, 6}, {1, 1, 1, 1, 1, 1, 1}, {0, 1, 2, 3, 4, 5, 6},
		rising(1000), make([]uint64, 1000),
	}
}

// rising has the tags 1 to n.
func rising(n int) []uint64 {
	l := make([]uint64, n)
	for i := range l {
		l[i] = uint64(i + 1)
	}
	return l
}

// scattered has n lists of up to most numbers from all over, few of them unlike in some (the same ones each time).
func scattered(n, most int) [][]uint64 {
	var x uint64
	next := func() uint64 {
		x += 0x9E3779B97F4A7C15
		y := (x ^ x>>30) * 0xBF58476D1CE4E5B9
		y = (y ^ y>>27) * 0x94D049BB133111EB
		return y ^ y>>31
	}
	all := make([][]uint64, n)
	for i := range all {
		kinds := next()%12 + 1
		for range next() % uint64(most+1) {
			tag := next()
			if i%2 == 0 {
				tag = tag%kinds*0x0101010101010101 + 1
			}
			all[i] = append(all[i], tag)
		}
	}
	return all
}

// unlike has the unlike numbers of l, rising.
func unlike(l []uint64) []uint64 {
	set := map[uint64]int{}
	for _, tag := range l {
		set[tag]++
	}
	var all []uint64
	for tag := range set {
		all = append(all, tag)
	}
	slices.Sort(all)
	return all
}

func sign(n int) int {
	switch {
	case n < 0:
		return -1
	case n > 0:
		return 1
	}
	return 0
}

// P2.1

func TestRight(t *testing.T) {
	for _, l := range [][]uint64{nil, {}, {least}, {greatest}, {least, greatest}, {1, 2, 3}, {5, 9, 1000}, {greatest - 1, greatest}, rising(api.MaxTags)} {
		if !label.Right(l) {
			t.Errorf("%v is one", l)
		}
	}
	for _, l := range wrong() {
		if label.Right(l) {
			t.Errorf("%v is none", l)
		}
	}
}

func TestRightOfAllShortLists(t *testing.T) {
	for _, l := range lists(4, 0, 1, 2, 3, greatest) {
		want := slices.Equal(l, unlike(l)) && !slices.Contains(l, 0)
		if label.Right(l) != want {
			t.Fatalf("%v: not %v", l, want)
		}
	}
}

func TestRightOfManyTags(t *testing.T) {
	for n := range 20 {
		if l := rising(n); label.Right(l) != (n <= api.MaxTags) {
			t.Errorf("%d tags", n)
		}
	}
}

func TestOf(t *testing.T) {
	for _, c := range [][2][]uint64{
		{nil, nil},
		{{}, nil},
		{{7}, {7}},
		{{3, 1, 3, 2}, {1, 2, 3}},
		{{greatest, least}, {least, greatest}},
		{{6, 5, 4, 3, 2, 1}, {1, 2, 3, 4, 5, 6}},
		{{6, 6, 5, 5, 4, 4, 3, 3, 2, 2, 1, 1, 6, 1}, {1, 2, 3, 4, 5, 6}},
		{slices.Repeat([]uint64{9}, 5000), {9}},
		{slices.Repeat([]uint64{greatest, 4, 2, 8, 1, 3}, 2000), {1, 2, 3, 4, 8, greatest}},
	} {
		l, err := label.Of(c[0])
		if err != api.OK || !slices.Equal(l, c[1]) {
			t.Errorf("%v: %v, %d", c[0], l, err)
		}
	}
}

func TestOfWrongTags(t *testing.T) {
	full := rising(api.MaxTags)
	for _, c := range []struct {
		tags []uint64
		want api.Errno
	}{
		{[]uint64{0}, api.ErrArg},
		{[]uint64{1, 0}, api.ErrArg},
		{[]uint64{0, 0, 0}, api.ErrArg},
		{append(slices.Clone(full), 0), api.ErrArg},
		{rising(api.MaxTags + 1), api.ErrLong},
		{append(slices.Clone(full), greatest), api.ErrLong},
		{append([]uint64{greatest}, full...), api.ErrLong},
		{slices.Repeat(rising(api.MaxTags+1), 300), api.ErrLong},
		{rising(3000), api.ErrLong},
		{append(rising(3000), 0), api.ErrArg}, // the 0 counts, though it stands behind those that are too many
		{append([]uint64{0}, rising(3000)...), api.ErrArg},
		{append(rising(7), 0, 8), api.ErrArg},
	} {
		if l, err := label.Of(c.tags); err != c.want || len(l) != 0 {
			t.Errorf("%v: %v, %d, not %d", c.tags, l, err, c.want)
		}
	}
}

func TestOfInAnyOrder(t *testing.T) {
	all := append(lists(4, 0, 1, 2, greatest), lists(6, 1, 2, 3)...)
	for _, l := range append(all, scattered(3000, 40)...) {
		want, wantErr := unlike(l), api.OK
		switch {
		case slices.Contains(l, 0):
			want, wantErr = nil, api.ErrArg
		case len(want) > api.MaxTags:
			want, wantErr = nil, api.ErrLong
		}
		if got, err := label.Of(l); err != wantErr || !slices.Equal(got, want) {
			t.Fatalf("%v: %v, %d, not %v, %d", l, got, err, want, wantErr)
		}
	}
}

func TestOfEachOrderOfMaxTags(t *testing.T) {
	want := rising(api.MaxTags)
	var orders func(front, rest []uint64)
	orders = func(front, rest []uint64) {
		if len(rest) == 0 {
			if l, err := label.Of(front); err != api.OK || !slices.Equal(l, want) {
				t.Fatalf("%v: %v, %d", front, l, err)
			}
		}
		for i, tag := range rest {
			orders(append(slices.Clone(front), tag), slices.Delete(slices.Clone(rest), i, i+1))
		}
	}
	orders(nil, want)
}

func TestInAndHas(t *testing.T) {
	a := []uint64{1, 2, 5}
	for _, c := range []struct {
		a, b []uint64
		want bool
	}{
		{nil, nil, true}, {nil, []uint64{}, true}, {[]uint64{}, a, true}, {a, nil, false}, {a, a, true},
		{[]uint64{1, 5}, a, true}, {[]uint64{2, 7}, a, false}, {[]uint64{7}, a, false}, {[]uint64{1, 2, 5, 6}, a, false},
		{[]uint64{greatest}, []uint64{least, greatest}, true}, {[]uint64{greatest}, []uint64{least, greatest - 1}, false},
		{[]uint64{5, 1}, a, true}, {[]uint64{5, 5, 5, 5, 1, 1, 1, 1}, a, true}, {[]uint64{5, 6, 5}, a, false}, // lists that are no labels
		{a, []uint64{5, 2, 1}, true}, {a, []uint64{5, 2, 2, 5, 1, 9}, true}, {a, []uint64{5, 2, 2, 5, 9}, false},
		{[]uint64{0}, nil, false}, {[]uint64{0}, a, false}, {[]uint64{0, 0}, []uint64{3, 0}, true}, {[]uint64{3}, []uint64{3, 0}, true},
		{rising(9), rising(8), false}, {rising(8), rising(9), true},
	} {
		if label.In(c.a, c.b) != c.want {
			t.Errorf("%v in %v: not %v", c.a, c.b, c.want)
		}
	}
	if !label.Has(a, 1) || !label.Has(a, 2) || !label.Has(a, 5) || label.Has(a, 0) || label.Has(a, 3) || label.Has(a, greatest) || label.Has(nil, 1) || label.Has(nil, 0) {
		t.Error("has")
	}
	if !label.Has([]uint64{5, 1, 5, 0}, 1) || !label.Has([]uint64{5, 1, 5, 0}, 0) || !label.Has([]uint64{3, 2, 1}, 3) || !label.Has([]uint64{3, 2, 1}, 1) || label.Has([]uint64{3, 3, 1}, 2) {
		t.Error("has, of lists that are no labels")
	}
}

func TestInAndHasOfAllShortLists(t *testing.T) {
	all := lists(3, 0, 1, 2, greatest)
	for _, a := range all {
		for _, tag := range []uint64{0, 1, 2, 3, greatest - 1, greatest} {
			if label.Has(a, tag) != slices.Contains(a, tag) {
				t.Fatalf("%v has %d", a, tag)
			}
		}
		for _, b := range all {
			want := true
			for _, tag := range a {
				want = want && slices.Contains(b, tag)
			}
			if label.In(a, b) != want {
				t.Fatalf("%v in %v: not %v", a, b, want)
			}
		}
	}
}

func TestInAndHasOfLongLists(t *testing.T) {
	const n = 300000
	a, b := rising(n), rising(n)
	slices.Reverse(b)
	if !label.In(a, b) || !label.In(b, a) || !label.In(b, b) || !label.Has(b, 1) || !label.Has(a, n) || label.Has(b, n+1) {
		t.Error("all are there")
	}
	b[n/2]++ // one is gone, another one there twice
	if label.In(a, b) || !label.In(b, a) || label.Has(b, n-n/2) || !label.Has(b, n-n/2+1) {
		t.Error("one is gone")
	}
	b[n/3] = n + 1
	if label.In(b, a) || !label.Has(b, n+1) {
		t.Error("one is new")
	}
}

// P2.2

func TestJoinMeetLess(t *testing.T) {
	for _, c := range []struct{ a, b, join, meet, less []uint64 }{
		{nil, nil, nil, nil, nil},
		{[]uint64{}, nil, nil, nil, nil},
		{nil, []uint64{1, 2}, []uint64{1, 2}, nil, nil},
		{[]uint64{1, 2}, nil, []uint64{1, 2}, nil, []uint64{1, 2}},
		{[]uint64{1, 3}, []uint64{2, 3}, []uint64{1, 2, 3}, []uint64{3}, []uint64{1}},
		{[]uint64{2, 3}, []uint64{1, 3}, []uint64{1, 2, 3}, []uint64{3}, []uint64{2}},
		{[]uint64{1, 2, 5}, []uint64{2, 7}, []uint64{1, 2, 5, 7}, []uint64{2}, []uint64{1, 5}},
		{[]uint64{least}, []uint64{greatest}, []uint64{least, greatest}, nil, []uint64{least}},
		{rising(6), rising(6), rising(6), rising(6), nil},
		{rising(6), nil, rising(6), nil, rising(6)},
		{nil, rising(6), rising(6), nil, nil},
		{[]uint64{4, 5, 6}, rising(3), rising(6), nil, []uint64{4, 5, 6}},
	} {
		if l, err := label.Join(c.a, c.b); err != api.OK || !slices.Equal(l, c.join) {
			t.Errorf("%v join %v: %v, %d", c.a, c.b, l, err)
		}
		if l := label.Meet(c.a, c.b); !slices.Equal(l, c.meet) {
			t.Errorf("%v meet %v: %v", c.a, c.b, l)
		}
		if l := label.Less(c.a, c.b); !slices.Equal(l, c.less) {
			t.Errorf("%v less %v: %v", c.a, c.b, l)
		}
	}
}

func TestJoinMeetLessOfAllLabels(t *testing.T) {
	for _, i := range masks() {
		for _, k := range masks() {
			a, b := setOf(i), setOf(k)
			join, err := label.Join(a, b)
			if many := count(i|k) > api.MaxTags; many && (err != api.ErrLong || len(join) != 0) || !many && (err != api.OK || !slices.Equal(join, setOf(i|k))) {
				t.Fatalf("%v join %v: %v, %d", a, b, join, err)
			}
			if l := label.Meet(a, b); !slices.Equal(l, setOf(i&k)) {
				t.Fatalf("%v meet %v: %v", a, b, l)
			}
			if l := label.Less(a, b); !slices.Equal(l, setOf(i&^k)) {
				t.Fatalf("%v less %v: %v", a, b, l)
			}
		}
	}
}

func TestJoinMeetLessOfNoLabels(t *testing.T) {
	refused := func(a, b []uint64) {
		t.Helper()
		if l, err := label.Join(a, b); err != api.ErrArg || len(l) != 0 {
			t.Errorf("%v join %v: %v, %d", a, b, l, err)
		}
		if l := label.Meet(a, b); len(l) != 0 {
			t.Errorf("%v meet %v: %v", a, b, l)
		}
		if l := label.Less(a, b); len(l) != 0 {
			t.Errorf("%v less %v: %v", a, b, l)
		}
	}
	for _, l := range wrong() {
		for _, other := range [][]uint64{nil, {1}, {1, 2}, {7, 8}, {least, greatest}, rising(6), {11, 12, 13, 14, 15, 16}} {
			refused(l, other)
			refused(other, l)
		}
		refused(l, l)
	}
}

func TestCompare(t *testing.T) {
	ordered := [][]uint64{ // each ahead of all behind it; no labels among them, too
		nil, {0}, {1}, {2}, {0xFF}, {0x100}, {0x8000000000000000}, {greatest},
		{0, greatest}, {1, 0}, {1, 1}, {1, 2}, {1, 3}, {1, greatest}, {2, 1}, {2, 3}, {greatest, 0}, {greatest, greatest},
		{1, 2, 3}, {1, 2, 4}, {1, 3, 2}, {1, 3, 4}, {2, 3, 4}, {3, 2, 1},
		rising(6), {1, 2, 3, 4, 5, 7}, {2, 3, 4, 5, 6, 7}, rising(7), rising(20), make([]uint64, 21),
	}
	for i, a := range ordered {
		for k, b := range ordered {
			if c := label.Compare(a, b); c != sign(i-k) {
				t.Errorf("%v, %v: %d", a, b, c)
			}
		}
	}
	if label.Compare(nil, []uint64{}) != 0 || label.Compare([]uint64{}, nil) != 0 || label.Compare([]uint64{}, []uint64{1}) != -1 {
		t.Error("nil and empty are one")
	}
	long, other := rising(100000), rising(100000)
	if label.Compare(long, other) != 0 {
		t.Error("long ones alike")
	}
	if other[99999]++; label.Compare(long, other) != -1 || label.Compare(other, long) != 1 || label.Compare(long, other[:99999]) != 1 {
		t.Error("long ones unlike at the end")
	}
}

// aheadOf tells by the chapter's words whether a stands ahead of b.
func aheadOf(a, b []uint64) bool {
	if len(a) != len(b) {
		return len(a) < len(b)
	}
	for i := range a {
		if a[i] != b[i] {
			return a[i] < b[i]
		}
	}
	return false
}

func TestCompareOfAllShortLists(t *testing.T) {
	all := lists(3, 0, 1, 2, greatest)
	for _, a := range all {
		for _, b := range all {
			want := 0
			if aheadOf(a, b) {
				want = -1
			} else if aheadOf(b, a) {
				want = 1
			}
			if c := label.Compare(a, b); c != want {
				t.Fatalf("%v, %v: %d, not %d", a, b, c, want)
			}
		}
	}
}

// P2.3

// printed has the bytes that the chapter asks of tags, right or not.
func printed(l ...uint64) string {
	b := []byte{byte(len(l))}
	for _, tag := range l {
		b = binary.BigEndian.AppendUint64(b, tag)
	}
	return string(b)
}

func TestPackByHand(t *testing.T) {
	for s, l := range map[string][]uint64{
		"\x00":                                 nil,
		"\x01\x00\x00\x00\x00\x00\x00\x00\x01": {least},
		"\x01\xff\xff\xff\xff\xff\xff\xff\xff": {greatest},
		"\x01\x01\x02\x03\x04\x05\x06\x07\x08": {0x0102030405060708},
		"\x02\x00\x00\x00\x00\x00\x00\x00\x02\x00\x00\x00\x00\x00\x00\x00\x07": {2, 7},
		"\x02\x00\x00\x00\x00\x00\x00\x01\x00\x80\x00\x00\x00\x00\x00\x00\x00": {0x100, 1 << 63},
	} {
		if got, err := label.Pack(l); err != api.OK || got != s {
			t.Errorf("%v: %x, %d", l, got, err)
		}
		if got, n, err := label.Unpack(s); err != api.OK || n != len(s) || !slices.Equal(got, l) {
			t.Errorf("%x: %v, %d, %d", s, got, n, err)
		}
	}
	if s, err := label.Pack([]uint64{}); err != api.OK || s != "\x00" {
		t.Errorf("of an empty list: %x, %d", s, err)
	}
	if s, err := label.Pack([]uint64{1, 2, 3}); err != api.OK || len(s) != 25 {
		t.Errorf("of 1 2 3: %d bytes, %d", len(s), err)
	}
	if s, err := label.Pack(rising(6)); err != api.OK || len(s) != 49 {
		t.Errorf("of 1 to 6: %d bytes, %d", len(s), err)
	}
}

func TestPackOfNoLabel(t *testing.T) {
	for _, l := range append(wrong(), rising(256), rising(257)) {
		if s, err := label.Pack(l); err != api.ErrArg || s != "" {
			t.Errorf("%v: %x, %d", l, s, err)
		}
	}
}

func TestPackAndUnpackOfAllLabels(t *testing.T) {
	for _, mask := range masks() {
		l := setOf(mask)
		s, err := label.Pack(l)
		if err != api.OK || s != printed(l...) {
			t.Fatalf("%v: %x, %d", l, s, err)
		}
		for _, behind := range []string{"", "\x00", "\x07", "zz", s, "\xff\xff\xff\xff\xff\xff\xff\xff\xff"} {
			if got, n, err := label.Unpack(s + behind); err != api.OK || n != len(s) || !slices.Equal(got, l) {
				t.Fatalf("%x, behind it %x: %v, %d, %d", s, behind, got, n, err)
			}
		}
	}
}

// refused checks that bytes come to an error, and to nothing beside it.
func refused(t *testing.T, s string, want api.Errno) {
	t.Helper()
	if l, n, err := label.Unpack(s); err != want || n != 0 || len(l) != 0 {
		t.Errorf("%x: %v, %d, %d, not %d", s, l, n, err, want)
	}
}

func TestUnpackOfTooFewBytes(t *testing.T) {
	for n := range api.MaxTags + 1 {
		s := printed(rising(n)...)
		for i := range s {
			refused(t, s[:i], api.ErrShort)
		}
	}
	for _, l := range [][]uint64{{0, 1}, {2, 1}, {1, 1}, {0, 0, 0}} { // too few, though what is there is wrong already
		s := printed(l...)
		for i := range s {
			refused(t, s[:i], api.ErrShort)
		}
	}
}

func TestUnpackOfTooManyTags(t *testing.T) {
	for n := api.MaxTags + 1; n < 256; n++ {
		s := printed(rising(n)...)
		refused(t, s, api.ErrForm)
		refused(t, s+"zz", api.ErrForm)
		refused(t, s[:len(s)-1], api.ErrForm)
		refused(t, s[:9], api.ErrForm)
		refused(t, s[:1], api.ErrForm)
	}
}

func TestUnpackOfNoLabel(t *testing.T) {
	for _, l := range append(wrong(), lists(3, 0, 1, 2, greatest)...) {
		if label.Right(l) || len(l) > api.MaxTags {
			continue
		}
		refused(t, printed(l...), api.ErrForm)
		refused(t, printed(l...)+"zz", api.ErrForm)
	}
}

// P2.4

func TestJoinIsTheLeast(t *testing.T) {
	for _, i := range masks() {
		for _, k := range masks() {
			a, b := setOf(i), setOf(k)
			join, err := label.Join(a, b)
			if err == api.OK && (!label.Right(join) || !label.In(a, join) || !label.In(b, join)) {
				t.Fatalf("%v, %v: not both are in %v", a, b, join)
			}
			for upper := i | k; upper <= 0xFF; upper = (upper + 1) | i | k {
				c := setOf(upper)
				if !label.Right(c) {
					continue
				}
				if err != api.OK || !label.In(join, c) { // where one has both in it, there is a least one
					t.Fatalf("%v, %v: %v isn't in %v, %d", a, b, join, c, err)
				}
			}
		}
	}
}

func TestMeetIsTheGreatest(t *testing.T) {
	for _, i := range masks() {
		for _, k := range masks() {
			a, b := setOf(i), setOf(k)
			meet := label.Meet(a, b)
			if !label.Right(meet) || !label.In(meet, a) || !label.In(meet, b) {
				t.Fatalf("%v, %v: %v isn't in both", a, b, meet)
			}
			for lower := range i + 1 {
				c := setOf(lower)
				if lower&i == lower && lower&k == lower && !label.In(c, meet) {
					t.Fatalf("%v, %v: %v isn't in %v", a, b, c, meet)
				}
			}
		}
	}
}

func TestLessAndMeetMakeTheWhole(t *testing.T) {
	for _, i := range masks() {
		for _, k := range masks() {
			a, b := setOf(i), setOf(k)
			less, meet := label.Less(a, b), label.Meet(a, b)
			whole, err := label.Join(less, meet)
			if err != api.OK || label.Compare(whole, a) != 0 || len(label.Meet(less, b)) != 0 {
				t.Fatalf("%v, %v: %v and %v", a, b, less, meet)
			}
		}
	}
}

func TestAlikeIsOne(t *testing.T) {
	for _, i := range masks() {
		for _, k := range masks() {
			a, b := setOf(i), setOf(k)
			alike := label.Compare(a, b) == 0
			p, _ := label.Pack(a)
			q, _ := label.Pack(b)
			if alike != (i == k) || alike != (p == q) || alike != (label.In(a, b) && label.In(b, a)) {
				t.Fatalf("%v, %v: alike %v", a, b, alike)
			}
		}
	}
}

// The rules that hold everywhere

// roomy has l with spare room that is marked, so that whoever writes to it is found out.
func roomy(l []uint64) []uint64 {
	return append(append(make([]uint64, 0, len(l)+16), l...), 77, 77, 77, 77, 77, 77, 77, 77)[:len(l)]
}

func TestNothingIsChangedOrShared(t *testing.T) {
	for _, first := range [][]uint64{{1, 2, 5}, {3, 1, 3, 2}, {}, rising(6), rising(9), {0, 4}} {
		for _, second := range [][]uint64{{2, 7}, {9, 2, 9}, {}, rising(6), rising(9)} {
			a, b := roomy(first), roomy(second)
			for _, call := range []func() []uint64{
				func() []uint64 { l, _ := label.Of(a); return l },
				func() []uint64 { l, _ := label.Join(a, b); return l },
				func() []uint64 { return label.Meet(a, b) },
				func() []uint64 { return label.Less(a, b) },
				func() []uint64 {
					label.Right(a)
					label.Has(a, 5)
					label.In(a, b)
					label.Compare(a, b)
					label.Pack(a)
					return nil
				},
			} {
				l := call()
				again := slices.Clone(call())
				for i := range l[:cap(l)] {
					l[:cap(l)][i] = 1000
				}
				if !slices.Equal(call(), again) {
					t.Fatalf("%v, %v: an answer shares what was handed in, or kept", first, second)
				}
			}
			spare := append(a[len(a):len(a)+8:len(a)+8], b[len(b):len(b)+8]...)
			if !slices.Equal(a, first) || !slices.Equal(b, second) || !slices.Equal(spare, slices.Repeat([]uint64{77}, 16)) {
				t.Fatalf("%v, %v: changed to %v, %v, behind them %v", first, second, a, b, spare)
			}
		}
	}
}

func TestUnpackAnswersNewMemory(t *testing.T) {
	s := printed(rising(6)...)
	l, _, _ := label.Unpack(s)
	clear(l)
	again, n, err := label.Unpack(s)
	if err != api.OK || n != len(s) || !slices.Equal(again, rising(6)) {
		t.Errorf("%v, %d, %d", again, n, err)
	}
}

func FuzzUnpack(f *testing.F) {
	for _, l := range append(wrong(), rising(6), []uint64{least, greatest}, nil) {
		f.Add([]byte(printed(l...)))
		f.Add([]byte(printed(l...))[:len(printed(l...))/2])
	}
	f.Fuzz(func(t *testing.T, b []byte) {
		l, n, err := label.Unpack(string(b))
		if err != api.OK {
			if n != 0 || len(l) != 0 || err != api.ErrShort && err != api.ErrForm {
				t.Fatalf("%x: %v, %d, %d", b, l, n, err)
			}
			return
		}
		s, err := label.Pack(l)
		if err != api.OK || n != len(s) || !bytes.HasPrefix(b, []byte(s)) {
			t.Fatalf("%x: %v of %d bytes, packed %x, %d", b, l, n, s, err)
		}
	})
}

func ExampleJoin() {
	l, err := label.Join([]uint64{1, 3}, []uint64{2, 3})
	s, _ := label.Pack(l)
	fmt.Println(l, err, len(s))
	// Output: [1 2 3] 0 25
}
