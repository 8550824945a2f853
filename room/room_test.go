package room_test

import (
	"fmt"
	"math"
	"slices"
	"testing"
	"unsafe"

	"cloisonne/api"
	"cloisonne/room"
	"cloisonne/value"
)

const (
	oneBits = 0x3FF0000000000000
	nanBits = 0x7FF8000000000001
)

// settings tells settings, and whether each may be.
func settings() ([]api.Room, []bool) {
	var l []api.Room
	var right []bool
	add := func(s api.Room, may bool) { l, right = append(l, s), append(right, may) }
	labels := [][]uint64{nil, {}, {1}, {3}, {1, 2, 3, 4, 5, 6}, {1, 5, math.MaxUint64}}
	noLabels := [][]uint64{{0}, {0, 1}, {2, 1}, {1, 1}, {1, 2, 2}, {1, 2, 0}, {1, 2, 3, 4, 5, 6, 7}}
	sizes := map[int]bool{math.MinInt: false, -1: false, 0: false, 1: true, 2: true, api.MaxRing - 1: true, api.MaxRing: true, api.MaxRing + 1: false, 257: false, 1<<32 + 1: false, math.MaxInt: false}
	quotas := map[int]bool{math.MinInt: false, -2: false, -1: false, 0: true, 1: true, api.MaxQuota - 1: true, api.MaxQuota: true, api.MaxQuota + 1: false, 1 << 32: false, math.MaxInt: false}
	mosts := map[int]bool{math.MinInt: false, -1: false, 0: false, 1: true, 2: true, api.MaxSeq - 1: true, api.MaxSeq: true, api.MaxSeq + 1: false, 1<<32 + 1: false, math.MaxInt: false}
	for size, sizeMay := range sizes {
		for quota, quotaMay := range quotas {
			for most, mostMay := range mosts {
				for _, tags := range labels {
					add(api.Room{Label: tags, Ring: size, Quota: quota, Most: most}, sizeMay && quotaMay && mostMay)
				}
				for _, tags := range noLabels {
					add(api.Room{Label: tags, Ring: size, Quota: quota, Most: most}, false)
				}
			}
		}
	}
	return l, right
}

// P11.1: a setting may be, if its label is one, and Ring, Quota and Most are within their limits; New of others is ErrArg, without a room.
func TestRightAndNew(t *testing.T) {
	l, right := settings()
	for i, s := range l {
		if room.Right(s) != right[i] {
			t.Fatalf("Right(%v): %t", s, !right[i])
		}
		if right[i] {
			r, m := begin(t, s)
			holdSums(t, r, m)
			continue
		}
		if r, err := room.New(s); r != nil || err != api.ErrArg {
			t.Fatalf("New(%v): %v, %d", s, r, err)
		}
	}
}

// P11.1: rooms that are made alike are not one, and a new one has nothing.
func TestNewTwice(t *testing.T) {
	r, m := begin(t, wide(2))
	other, _ := begin(t, wide(2))
	other.Commit(writes(put("a", "x")), 5)
	hold(t, r, m)
}

// rightValues may be.
func rightValues() []api.Value {
	l := []api.Value{{}, {Text: "a"}, {Text: "\x00"}, {Text: long(api.MaxValue - 1)}, {Text: long(api.MaxValue)}}
	for _, x := range []float64{0, math.Copysign(0, -1), 1, -1, 5e-324, math.MaxFloat64, math.Inf(1), math.Inf(-1), math.NaN()} {
		l = append(l, value.Number(x))
	}
	return l
}

// wrongValues may not be: too long a text, a text beside a number, bits that no number has, bits without a number.
func wrongValues() []api.Value {
	return []api.Value{
		{Text: long(api.MaxValue + 1)}, {Text: long(256)}, {Text: long(5000)},
		{Number: true, Text: "x"}, {Number: true, Text: "x", Bits: oneBits},
		{Number: true, Bits: nanBits + 1}, {Number: true, Bits: math.MaxUint64},
		{Bits: 1}, {Bits: oneBits}, {Text: "x", Bits: 1},
	}
}

// rightKeys may be, in order.
func rightKeys() []string {
	return []string{"\x00", "\x00\x00", "a", "a\x00", "aa", "b", long(api.MaxKey - 1), long(api.MaxKey), "\xff"}
}

// wrongKeys may not be.
func wrongKeys() []string {
	return []string{"", long(api.MaxKey + 1), long(2 * api.MaxKey), long(256), long(256 + 1), long(5000)}
}

// many are writes to so many keys.
func many(n int) []api.Write {
	var l []api.Write
	for i := range n {
		l = append(l, put(fmt.Sprintf("key%03d", i), fmt.Sprint(i)))
	}
	return l
}

// rightWrites may be.
func rightWrites() [][]api.Write {
	l := [][]api.Write{
		writes(put("a", "x")), writes(put("a", "")), writes(gone("a")), writes(number("a", 1)),
		writes(put("a", "x"), put("b", "x")), writes(put("a", "x"), gone("b")), writes(gone("a"), gone("b")), writes(gone("a"), put("aa", "")),
		many(2), many(api.MaxWrites - 1), many(api.MaxWrites),
	}
	var all []api.Write
	for _, key := range rightKeys() {
		l = append(l, writes(put(key, "x")), writes(gone(key)))
		all = append(all, put(key, "y"))
	}
	l = append(l, all)
	for _, v := range rightValues() {
		l = append(l, writes(api.Write{Key: "a", Value: v}), writes(put("a", "x"), api.Write{Key: "b", Value: v}))
	}
	return l
}

// wrongWrites may not be: none, too many, keys that can't be or don't rise, values that may not be, one that is Gone and has a value; each fault at each place.
func wrongWrites() [][]api.Write {
	l := [][]api.Write{
		nil, {}, many(api.MaxWrites + 1), many(api.MaxWrites + 2), many(200),
		writes(put("b", "x"), put("a", "x")), writes(put("a", "x"), put("a", "x")), writes(put("a", "x"), put("a", "y")), writes(put("a", "x"), gone("a")), writes(gone("a"), gone("a")),
		writes(put("aa", "x"), put("a", "x")), writes(put("a", "x"), put("b", "x"), put("b", "x")), writes(put("a", "x"), put("c", "x"), put("b", "x")), writes(put("b", "x"), put("a", "x"), put("c", "x")),
		writes(put("b", "x"), put("c", "x"), put("a", "x")),
	}
	var faults []api.Write
	for _, key := range wrongKeys() {
		faults = append(faults, put(key, "x"), gone(key))
	}
	for _, v := range wrongValues() {
		faults = append(faults, api.Write{Key: "m", Value: v}, api.Write{Key: "m", Gone: true, Value: v})
	}
	for _, v := range rightValues() {
		if v != (api.Value{}) {
			faults = append(faults, api.Write{Key: "m", Gone: true, Value: v})
		}
	}
	faults = append(faults, api.Write{Key: "m", Gone: true, Value: api.Value{Number: true}}) // nought is a value, too
	for _, x := range faults {
		l = append(l, writes(x), writes(put("b", "x"), x), writes(x, put("y", "x")), writes(put("b", "x"), x, put("y", "x")), writes(gone("b"), x, gone("y")))
	}
	return l
}

// P11.1: May.
func TestMay(t *testing.T) {
	for _, l := range rightWrites() {
		if !room.May(l) {
			t.Errorf("%v may be", l)
		}
	}
	for _, l := range wrongWrites() {
		if room.May(l) {
			t.Errorf("%v may not be", l)
		}
	}
}

// P11.1: what is loaded is there, and the ring begins with the number.
func TestLoad(t *testing.T) {
	for size := 1; size <= api.MaxRing; size++ {
		r, m := load(t, api.Room{Label: []uint64{2, 7}, Ring: size, Quota: 500, Most: 900}, 40, entry("a", 1, "one"), entry("aa", 40, ""), entry("b", 39, "two"), api.Entry{Key: "c", Seq: 7, Value: value.Number(2)}, entry(long(api.MaxKey), 1, long(api.MaxValue)))
		hold(t, r, m)
		if r.Floor() != 40 || r.Versions() != 5 || r.Keys() != 5 {
			t.Fatal(r.Floor(), r.Versions(), r.Keys())
		}
		for i := range size + 2 {
			next(t, r, m, put("b", fmt.Sprint(i)))
			hold(t, r, m)
			if want := max(40, 41+i-size+1); r.Floor() != want {
				t.Fatalf("size %d: floor %d; want %d", size, r.Floor(), want)
			}
		}
	}
}

func TestLoadOfNothing(t *testing.T) {
	for _, seq := range []int{0, 1, 17, 99, 100} {
		r, m := load(t, of(0, 100, 3), seq)
		hold(t, r, m)
	}
	r, m := load(t, wide(3), api.MaxSeq)
	hold(t, r, m)
	if n, err := r.Commit(writes(put("a", "x")), 1); n != 0 || err != api.ErrSeq {
		t.Error(n, err)
	}
}

// P11.1: the number is 0 to Most.
func TestLoadSeq(t *testing.T) {
	for _, most := range []int{1, 2, 50, api.MaxSeq} {
		for seq, may := range map[int]bool{math.MinInt: false, -most: false, -1: false, 0: true, 1: true, most - 1: true, most: true, most + 1: false, 2*most + 2: false, 1<<32 + 1: false, math.MaxInt: false} {
			if may {
				r, m := load(t, of(10, most, 2), seq)
				hold(t, r, m)
				continue
			}
			if r, err := room.Load(of(10, most, 2), seq, nil); r != nil || err != api.ErrArg {
				t.Errorf("Load of %d, Most %d: %v, %d", seq, most, r, err)
			}
		}
	}
}

// wrongEntries may not be of a room whose last number is 9; each fault stands at each place.
func wrongEntries() [][]api.Entry {
	l := [][]api.Entry{
		entries(entry("b", 1, "x"), entry("a", 1, "x")), entries(entry("a", 1, "x"), entry("a", 1, "x")), entries(entry("a", 1, "x"), entry("a", 2, "y")),
		entries(entry("a", 1, "x"), entry("c", 1, "x"), entry("b", 1, "x")), entries(entry("a", 1, "x"), entry("b", 1, "x"), entry("b", 1, "x")), entries(entry("b", 1, "x"), entry("c", 1, "x"), entry("a", 1, "x")),
	}
	var faults []api.Entry
	for _, key := range wrongKeys() {
		faults = append(faults, entry(key, 1, "x"))
	}
	for _, v := range wrongValues() {
		faults = append(faults, api.Entry{Key: "m", Seq: 1, Value: v})
	}
	for _, seq := range []int{math.MinInt, -9, -1, 0, 10, 11, 1<<32 + 1, api.MaxSeq, api.MaxSeq + 1, math.MaxInt} {
		faults = append(faults, entry("m", seq, "x"))
	}
	for _, x := range faults {
		l = append(l, entries(x), entries(entry("b", 1, "x"), x), entries(x, entry("y", 1, "x")), entries(entry("b", 2, "x"), x, entry("y", 1, "x")))
	}
	return l
}

// P11.1: Load of entries that may not be: ErrArg, ahead of ErrQuota too.
func TestLoadOfWrong(t *testing.T) {
	for _, quota := range []int{api.MaxQuota, 0} {
		for _, l := range wrongEntries() {
			if r, err := room.Load(of(quota, 100, 4), 9, l); r != nil || err != api.ErrArg {
				t.Errorf("Load(%v): %v, %d", l, r, err)
			}
		}
		l, right := settings()
		for i, s := range l {
			if right[i] {
				continue
			}
			if r, err := room.Load(s, 1, entries(entry("a", 1, "more than there is room for"))); r != nil || err != api.ErrArg {
				t.Fatalf("Load(%v): %v, %d", s, r, err)
			}
		}
	}
	if r, err := room.Load(of(0, 5, 4), 6, entries(entry("a", 1, "x"))); r != nil || err != api.ErrArg {
		t.Error(r, err)
	}
	if r, err := room.Load(of(0, 5, 4), 0, entries(entry("a", 1, "x"))); r != nil || err != api.ErrArg {
		t.Error(r, err) // no Seq is 1 to 0
	}
}

// P11.1: each Seq is 1 to the number handed in, not to Most.
func TestLoadSeqs(t *testing.T) {
	for seq := 1; seq <= 6; seq++ {
		for n := -1; n <= 8; n++ {
			r, err := room.Load(of(10, 7, 4), seq, entries(entry("a", n, "x")))
			if may := n >= 1 && n <= seq; may != (r != nil) || may != (err == api.OK) || !may && err != api.ErrArg {
				t.Errorf("Seq %d of %d: %v, %d", n, seq, r, err)
			}
		}
	}
}

// P11.1: what lives is the Quota at most, each byte of keys and values counted.
func TestLoadQuota(t *testing.T) {
	for _, l := range [][]api.Entry{
		entries(entry("k", 1, "x")), entries(entry("k", 1, "")), entries(entry("kk", 2, "xyz")), entries(entry(long(api.MaxKey), 3, long(api.MaxValue))),
		entries(api.Entry{Key: "k", Seq: 1, Value: value.Number(3)}),
		entries(entry("a", 1, "one"), entry("b", 2, ""), api.Entry{Key: "ccc", Seq: 3, Value: value.Number(math.NaN())}, entry("d", 3, "two")),
	} {
		weight := 0
		for _, x := range l {
			weight += len(x.Key) + bytesOf(x.Value)
		}
		for _, quota := range []int{weight, weight + 1, weight + 100, api.MaxQuota} {
			r, m := load(t, of(quota, 9, 2), 3, l...)
			hold(t, r, m)
			if r.Live() != weight {
				t.Fatal(r.Live(), weight)
			}
		}
		for _, quota := range []int{weight - 1, weight / 2, 1, 0} {
			if r, err := room.Load(of(quota, 9, 2), 3, l); r != nil || err != api.ErrQuota {
				t.Errorf("Load of %d bytes, Quota %d: %v, %d", weight, quota, r, err)
			}
		}
	}
}

// Rule 3: the room keeps nothing that was handed in, and hands out nothing that it has.
func TestOwn(t *testing.T) {
	tags := []uint64{1, 5, 9}
	s := api.Room{Label: tags[:2], Ring: 3, Quota: 100, Most: 50}
	l := entries(entry("a", 1, "one"), entry("b", 2, "two"), entry("c", 3, "three"))
	r, m := load(t, s, 3, l[:2]...)
	l = l[:2:3]
	made, err := room.Load(s, 3, l)
	if err != api.OK {
		t.Fatal(err)
	}
	m.setting.Label = []uint64{1, 5}
	tags[0], tags[1] = 7, 8
	l[0], l[1] = entry("z", 3, "other"), entry("y", 3, "other")
	hold(t, r, m)
	hold(t, made, m)
	if tags[2] != 9 || l[:3][2] != entry("c", 3, "three") {
		t.Error("spare room was written to", tags, l[:3])
	}
	w := writes(put("a", "four"), put("d", "five"), put("e", "six"))
	twin := slices.Clone(w)
	r.Check(w[:2], 3)
	next(t, r, m, w[:2]...)
	if _, err := made.Commit(w[:2], 10); err != api.OK || !slices.Equal(w, twin) {
		t.Error("writes were changed", err, w)
	}
	w[0], w[1] = gone("x"), gone("y")
	hold(t, r, m)
	hold(t, made, m)
	label := made.Setting().Label
	label[0] = 100
	_ = append(label[:1], 200)
	told := made.Entries()
	told[0], told[1] = entry("z", 1, "wrong"), api.Entry{}
	_ = append(told[:1], entry("q", 1, "q"))
	hold(t, made, m)
	next(t, r, m, put("f", "seven"))
	if again := made.Entries(); len(again) != 3 {
		t.Error("two rooms share what they have", again)
	}
}

// Rule 3: keys and texts are new memory, in the room and in each answer.
func TestNewMemory(t *testing.T) {
	big := "key" + long(20) + "text"
	key, text := big[:3], big[23:]
	r, _ := load(t, wide(4), 1, entry(key, 1, text))
	r.Commit(writes(put("other", "x")), 1)
	var keys, texts []string
	for range 2 {
		at, _ := r.Get(key, 2)
		first, v, _ := r.Seek("", 2)
		above, w, _ := r.After("a", 2)
		l := r.Entries()
		keys = append(keys, first, above, l[0].Key)
		texts = append(texts, at.Text, v.Text, w.Text, l[0].Value.Text)
	}
	for what, told := range map[string][]string{key: keys, text: texts} {
		met := map[*byte]bool{unsafe.StringData(what): true}
		for _, s := range told {
			if s != what || met[unsafe.StringData(s)] {
				t.Errorf("%q: another one, or no new memory", s)
			}
			met[unsafe.StringData(s)] = true
		}
	}
}

// A nil room: ErrNil, 0, nothing, false, whatever is asked.
func TestNil(t *testing.T) {
	var r *room.Room
	if s := r.Setting(); !same(s, api.Room{}) {
		t.Error(s)
	}
	if r.Seq() != 0 || r.Floor() != 0 || r.Sweep() != 0 || r.Live() != 0 || r.Keys() != 0 || r.Versions() != 0 || len(r.Entries()) != 0 {
		t.Error("not 0")
	}
	for _, n := range []int{math.MinInt, -1, 0, 1, math.MaxInt} {
		if n, err := r.AsOf(uint64(n)); n != 0 || err != api.ErrNil {
			t.Error(n, err)
		}
		for _, key := range []string{"", "a", long(100)} {
			if v, ok := r.Get(key, n); v != (api.Value{}) || ok {
				t.Error(v, ok)
			}
			if k, v, ok := r.After(key, n); k != "" || v != (api.Value{}) || ok {
				t.Error(k, v, ok)
			}
			if k, v, ok := r.Seek(key, n); k != "" || v != (api.Value{}) || ok {
				t.Error(k, v, ok)
			}
		}
		for _, l := range [][]api.Write{nil, writes(put("a", "x")), writes(put("", "x")), many(17)} {
			if err := r.Check(l, n); err != api.ErrNil {
				t.Error(err)
			}
			if n, err := r.Commit(l, uint64(n)); n != 0 || err != api.ErrNil {
				t.Error(n, err)
			}
		}
	}
}

// Rule 1: none panics, not on a room that no call made either.
func TestNoneMade(t *testing.T) {
	var r room.Room
	for range 3 {
		r.Setting()
		r.Seq()
		r.Floor()
		r.AsOf(3)
		r.Get("a", 1)
		r.After("", 1)
		r.Seek("", 1)
		r.Check(writes(put("a", "x")), 0)
		r.Commit(writes(put("a", "x")), 9)
		r.Sweep()
		r.Live()
		r.Keys()
		r.Versions()
		r.Entries()
	}
}

func ExampleRoom_Commit() {
	r, _ := room.New(api.Room{Ring: 2, Quota: 3, Most: api.MaxSeq})
	_, err := r.Commit([]api.Write{{Key: "k", Value: api.Value{Text: "xy"}}}, 1)
	fmt.Println(err == api.ErrQuota)
	n, err := r.Commit([]api.Write{{Key: "k", Value: api.Value{Text: "x"}}}, 1)
	fmt.Println(n, err == api.OK, r.Live())
	// Output:
	// true
	// 1 true 3
}

func ExampleRoom_After() {
	r, _ := room.New(api.Room{Ring: 4, Quota: 100, Most: api.MaxSeq})
	r.Commit([]api.Write{{Key: "a", Value: api.Value{Text: "one"}}, {Key: "b", Value: api.Value{Text: "two"}}}, 1)
	r.Commit([]api.Write{{Key: "a", Gone: true}, {Key: "c", Value: api.Value{Text: "three"}}}, 2)
	for seq := 1; seq <= 2; seq++ {
		for key, v, ok := r.After("", seq); ok; key, v, ok = r.After(key, seq) {
			fmt.Println(seq, key, v.Text)
		}
	}
	// Output:
	// 1 a one
	// 1 b two
	// 2 b two
	// 2 c three
}
