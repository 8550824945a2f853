package room_test

import (
	"fmt"
	"math"
	"math/rand"
	"runtime"
	"slices"
	"testing"

	"cloisonne/api"
	"cloisonne/room"
	"cloisonne/value"
)

// P11.3: writes that may be are taken, each by the number that is next.
func TestCommit(t *testing.T) {
	r, m := begin(t, wide(3))
	for _, l := range rightWrites() {
		if err := r.Check(l, r.Seq()); err != api.OK {
			t.Fatal(l, err)
		}
		next(t, r, m, l...)
		hold(t, r, m)
	}
}

// P11.3: writes that may not be: ErrArg of both calls, ahead of all else, and nothing turns.
func TestWrongWrites(t *testing.T) {
	r, m := begin(t, of(40, 3, 2))
	for m.seq() < 3 {
		next(t, r, m, put("a", "x"), put("m", "x"))
		for _, l := range wrongWrites() {
			for _, seq := range []int{math.MinInt, -1, 0, m.floor() - 1, m.floor(), m.seq(), m.seq() + 1, math.MaxInt} {
				if err := r.Check(l, seq); err != api.ErrArg {
					t.Fatalf("Check(%v, %d): %d", l, seq, err)
				}
			}
			for _, stamp := range []uint64{0, 1, 1000} {
				commit(t, r, m, stamp, l...)
			}
			if n, err := r.Commit(l, 1000); n != 0 || err != api.ErrArg {
				t.Fatalf("Commit(%v): %d, %d", l, n, err)
			}
		}
		hold(t, r, m)
	}
}

func check(t *testing.T, r *room.Room, m *model, want api.Errno, seq int, l ...api.Write) {
	t.Helper()
	if by := m.check(l, seq); by != want {
		t.Fatalf("the model's own Check(%v, %d): %d; want %d", l, seq, by, want)
	}
	if err := r.Check(l, seq); err != want {
		t.Errorf("Check(%v, %d): %d; want %d", l, seq, err, want)
	}
}

// P11.3: ErrOld below Floor and above Seq, ahead of ErrConflict, ErrSeq and ErrQuota.
func TestCheckOld(t *testing.T) {
	for size := 1; size <= api.MaxRing; size++ {
		for _, began := range []int{0, 5} {
			r, m := load(t, of(30, began+20, size), began)
			for m.seq() < began+20 {
				next(t, r, m, put("a", fmt.Sprint(m.seq())), put("b", ""))
				for seq := -2; seq <= m.seq()+3; seq++ {
					want := api.OK
					if seq < max(began, m.seq()-size+1) || seq > m.seq() {
						want = api.ErrOld
					} else if m.seq() == began+20 {
						want = api.ErrSeq
					}
					check(t, r, m, want, seq, put("z", "x"))
					if want == api.ErrOld {
						check(t, r, m, want, seq, put("a", "x"))
						check(t, r, m, want, seq, put("z", long(30)))
						check(t, r, m, want, seq, put("a", long(30)))
					}
				}
				for _, seq := range []int{math.MinInt, math.MinInt + 1, -api.MaxSeq, 1 << 32, math.MaxInt} {
					check(t, r, m, api.ErrOld, seq, put("z", "x"))
				}
			}
		}
	}
}

// P11.3: ErrConflict, if some key has a version behind the number, one that is Gone too; ahead of ErrSeq and ErrQuota.
func TestCheckConflict(t *testing.T) {
	r, m := begin(t, of(40, 5, 5))
	next(t, r, m, put("a", "1"), put("b", "1"))
	next(t, r, m, gone("a"), put("c", "2"))
	next(t, r, m, put("c", "3"), gone("never"))
	next(t, r, m, put("d", "4"))
	last := map[string]int{"a": 2, "b": 1, "c": 3, "never": 3, "d": 4, "x": 0}
	try := func() {
		for seq := m.floor(); seq <= m.seq(); seq++ {
			for key, n := range last {
				want := api.OK
				if m.seq() == 5 {
					want = api.ErrSeq
				}
				full := api.ErrQuota
				if m.seq() == 5 {
					full = api.ErrSeq
				}
				if n > seq {
					want, full = api.ErrConflict, api.ErrConflict
				}
				check(t, r, m, want, seq, put(key, "w"))
				check(t, r, m, want, seq, gone(key))
				check(t, r, m, full, seq, put(key, long(64)))
				check(t, r, m, want, seq, put("A", ""), put(key, "w"), put("z", ""))
				check(t, r, m, full, seq, put("A", long(64)), put(key, "w"))
				check(t, r, m, full, seq, put(key, "w"), put("z", long(64)))
			}
		}
	}
	try()
	sweep(t, r, m)
	try()
	next(t, r, m, put("e", "5"))
	last["e"] = 5
	try()
	sweep(t, r, m)
	try()
	hold(t, r, m)
}

// P11.3: a version that sweeping left, or took, makes no conflict that wasn't there.
func TestCheckConflictSwept(t *testing.T) {
	r, m := begin(t, wide(2))
	next(t, r, m, put("a", "1"), put("b", "1"))
	next(t, r, m, gone("a"), put("b", "2"))
	next(t, r, m, put("c", "1"))
	sweep(t, r, m)
	check(t, r, m, api.OK, 2, put("a", "x"), put("b", "x"))
	check(t, r, m, api.ErrConflict, 2, put("c", "x"))
	next(t, r, m, put("a", "again"))
	sweep(t, r, m)
	check(t, r, m, api.ErrConflict, 3, put("a", "x"))
	check(t, r, m, api.OK, 4, put("a", "x"))
	hold(t, r, m)
}

// P11.3: what was loaded makes no conflict, whatever its Seq is.
func TestCheckLoaded(t *testing.T) {
	r, m := load(t, wide(4), 9, entry("a", 1, "x"), entry("b", 9, "x"))
	check(t, r, m, api.OK, 9, put("a", "y"), put("b", "y"))
	check(t, r, m, api.ErrOld, 8, put("a", "y"))
	next(t, r, m, put("b", "z"))
	check(t, r, m, api.ErrConflict, 9, put("b", "y"))
	check(t, r, m, api.OK, 9, put("a", "y"))
}

// P11.3: ErrSeq, if Seq is Most already, ahead of ErrQuota.
func TestMost(t *testing.T) {
	for most := 1; most <= 5; most++ {
		r, m := begin(t, of(10, most, 3))
		for n := range most {
			check(t, r, m, api.OK, n, put("a", "x"))
			check(t, r, m, api.ErrQuota, n, put("a", long(9)))
			next(t, r, m, put("a", "x"))
		}
		for _, l := range [][]api.Write{writes(put("a", "x")), writes(gone("a")), writes(put("a", long(9))), writes(put("b", long(64)))} {
			check(t, r, m, api.ErrSeq, most, l...)
			for _, stamp := range []uint64{0, 1, 10, 1000, math.MaxUint64} {
				if n, err := r.Commit(l, stamp); n != 0 || err != api.ErrSeq {
					t.Errorf("Commit(%v, %d): %d, %d", l, stamp, n, err)
				}
			}
			hold(t, r, m)
		}
		check(t, r, m, api.ErrOld, most+1, put("a", "x"))
	}
	r, m := load(t, wide(2), api.MaxSeq-1, entry("a", api.MaxSeq-1, "x"))
	next(t, r, m, put("b", "y"))
	check(t, r, m, api.ErrSeq, api.MaxSeq, put("b", "z"))
	commit(t, r, m, 1000, put("b", "z"))
	hold(t, r, m)
}

// fill begins with 20 bytes that live, of the keys a, bb and n: 7, 3, 10 of them.
func fill(t *testing.T, quota int) (*room.Room, *model) {
	t.Helper()
	r, m := begin(t, of(quota, 100, 4))
	next(t, r, m, put("a", "12345"), put("bb", ""), number("n", 7))
	if r.Live() != 20 {
		t.Fatal(r.Live())
	}
	return r, m
}

// P11.3: with what writes add and take off at most the Quota lives: just so many bytes are well, one more isn't.
func TestQuota(t *testing.T) {
	for _, x := range []struct {
		live int // with the writes
		l    []api.Write
	}{
		{22, writes(put("c", ""))},
		{25, writes(put("c", "123"))},
		{25, writes(put("ccc", "1"))},
		{30, writes(number("c", 1))},
		{24, writes(put("b", ""), put("c", ""))},
		{20 + 32 + 65, writes(put(long(32), long(64)))},
		{21, writes(put("a", "123456"))},
		{28, writes(number("bb", 1))},
		{23, writes(number("a", 1))},
		{20, writes(put("a", "54321"))},
		{22, writes(put("a", ""), put("c", "12345"))},
		{21, writes(gone("a"), put("c", "123456"))}, // makes room in the same commit
		{24, writes(put("Z", "123456789"), gone("a"))},
		{21, writes(put("Z", "123456789"), gone("n"))},
		{32, writes(gone("a"), gone("bb"), gone("n"), put("x", "123456789012345678901234567890"))},
		{22, writes(gone("never"), put("x", ""))},
		{23, writes(put("a", "123456"), put("bb", "1"), put("n", "1234567"), gone("x"), put("z", ""))},
	} {
		for _, more := range []int{0, 1, 50} {
			r, m := fill(t, max(20, x.live+more))
			check(t, r, m, api.OK, 1, x.l...)
			next(t, r, m, x.l...)
			hold(t, r, m)
			if r.Live() != x.live {
				t.Errorf("%v: %d live; want %d", x.l, r.Live(), x.live)
			}
		}
		for quota := 20; quota < x.live; quota++ {
			r, m := fill(t, quota)
			check(t, r, m, api.ErrQuota, 1, x.l...)
			if n, err := r.Commit(x.l, 1000); n != 0 || err != api.ErrQuota {
				t.Errorf("Commit(%v), Quota %d: %d, %d", x.l, quota, n, err)
			}
			if n, err := r.Commit(x.l, 0); n != 0 || err != api.ErrQuota {
				t.Errorf("ahead of the stamp: Commit(%v), Quota %d: %d, %d", x.l, quota, n, err)
			}
			hold(t, r, m)
			next(t, r, m, gone("a"))
			hold(t, r, m)
		}
	}
}

// P11.3: versions that don't live any more, and keys that are gone, weigh nothing, swept or not.
func TestQuotaOfLast(t *testing.T) {
	r, m := begin(t, of(7, 1000, 16))
	for i := range 40 {
		next(t, r, m, put("a", "12345"))
		check(t, r, m, api.ErrQuota, m.seq(), put("b", ""))
		check(t, r, m, api.ErrQuota, m.seq(), put("a", "123456"))
		next(t, r, m, gone("a"), put("b", "12345"))
		next(t, r, m, gone("b"), gone("c"))
		hold(t, r, m)
		if i%3 == 0 {
			sweep(t, r, m)
		}
	}
}

// P11.3: a room of Quota 0 takes what is Gone.
func TestQuotaOfNothing(t *testing.T) {
	r, m := begin(t, of(0, 10, 2))
	check(t, r, m, api.ErrQuota, 0, put("a", ""))
	check(t, r, m, api.OK, 0, gone("a"))
	next(t, r, m, gone("a"), gone("b"))
	hold(t, r, m)
	commit(t, r, m, 1000, put("a", ""))
	hold(t, r, m)
}

// P11.3: what fills MaxQuota.
func TestMaxQuota(t *testing.T) {
	const each = 2 + 65
	var l []api.Entry
	for i := range api.MaxQuota / each {
		l = append(l, entry(string([]byte{byte(i >> 8), byte(i)}), 1, long(64)))
	}
	rest := api.MaxQuota % each
	r, _ := load(t, wide(2), 1, l...)
	if r.Live() != api.MaxQuota-rest || rest < 8 {
		t.Fatal(r.Live(), rest)
	}
	last := writes(put("\xff\xff\xff", long(rest-4)))
	over := writes(put("\xff\xff\xff", long(rest-3)))
	if err := r.Check(over, 1); err != api.ErrQuota {
		t.Error(err)
	}
	if err := r.Check(last, 1); err != api.OK {
		t.Error(err)
	}
	if n, err := r.Commit(last, 1); n != 2 || err != api.OK || r.Live() != api.MaxQuota {
		t.Error(n, err, r.Live())
	}
	if _, err := r.Commit(writes(put("\xff\xff\xff\xff", "")), 2); err != api.ErrQuota {
		t.Error(err)
	}
}

// P11.3: the ring's error of a stamp comes behind ErrSeq and ErrQuota, and turns nothing.
func TestCommitStamp(t *testing.T) {
	r, m := begin(t, of(20, 6, 2))
	tell := func(stamp uint64, want int, wantErr api.Errno, l ...api.Write) {
		t.Helper()
		if n, err := r.Commit(l, stamp); n != want || err != wantErr {
			t.Errorf("Commit(%v, %d): %d, %d; want %d, %d", l, stamp, n, err, want, wantErr)
		}
		m.commit(l, stamp)
		hold(t, r, m)
	}
	tell(0, 0, api.ErrArg, put("a", "x"))
	tell(0, 0, api.ErrQuota, put("a", long(20)))
	tell(7, 1, api.OK, put("a", "x"))
	for _, stamp := range []uint64{0, 1, 6, 7} {
		tell(stamp, 0, api.ErrArg, put("a", "y"))
		tell(stamp, 0, api.ErrArg, put("new", "y"))
		tell(stamp, 0, api.ErrArg, gone("a"))
		tell(stamp, 0, api.ErrQuota, put("new", long(20)))
	}
	tell(8, 2, api.OK, put("b", "x"))
	tell(500, 0, api.ErrQuota, put("b", long(20)))
	tell(9, 3, api.OK, put("b", "y")) // the one that was refused left no stamp
	tell(math.MaxInt64+1, 4, api.OK, gone("b"))
	tell(math.MaxInt64, 0, api.ErrArg, put("b", "z"))
	tell(math.MaxUint64, 5, api.OK, put("b", "z"))
	tell(math.MaxUint64, 0, api.ErrArg, put("b", "z"))
}

// P11.3: Commit looks at no number that the writer saw: what is behind the last one goes on.
func TestCommitOver(t *testing.T) {
	r, m := begin(t, wide(1))
	for i := range 20 {
		next(t, r, m, put("a", fmt.Sprint(i)))
		hold(t, r, m)
	}
}

// scenario is commits in which keys live, go, come back, and never were, with keys ahead of all, between and behind all.
func scenario() [][]api.Write {
	return [][]api.Write{
		writes(put("b", "1"), put("d", "1"), number("f", 1)),
		writes(gone("b"), put("d", "2")),
		writes(put("c", "3"), gone("e")),
		writes(put("b", "4"), gone("d"), gone("f")),
		writes(put("", "")), // refused
		writes(put("b", "5"), put("d", "5")),
		writes(gone("c"), put("e", ""), gone("f")),
		writes(gone("b"), gone("d"), gone("e")),
		writes(put("a", "8"), put("h", "8")),
		writes(gone("a"), gone("h"), gone("zz")),
		writes(number("f", math.NaN())),
		writes(gone("f")),
	}
}

// P11.2, P11.4: at each number, of each key, ahead of each commit and sweep and behind them.
func TestScenario(t *testing.T) {
	for size := 1; size <= 6; size++ {
		for _, every := range []int{1, 2, 3, 5, 12, 25} {
			r, m := begin(t, api.Room{Label: []uint64{4}, Ring: size, Quota: 60, Most: 40})
			hold(t, r, m)
			for round := range 2 {
				for i, l := range scenario() {
					commit(t, r, m, uint64(100*round+5*i+5), l...)
					hold(t, r, m)
					if i%every == every-1 {
						sweep(t, r, m)
						hold(t, r, m)
						if n := r.Sweep(); n != 0 {
							t.Fatalf("the second of two sweeps took %d", n)
						}
						hold(t, r, m)
					}
				}
			}
		}
	}
}

// told is all that a room tells of keys at a number, by Seek and After, and by Get.
func told(r *room.Room, seq int) []api.Entry {
	var l []api.Entry
	for key, v, ok := r.Seek("", seq); ok; key, v, ok = r.After(key, seq) {
		l = append(l, api.Entry{Key: key, Value: v})
		if own, ok := r.Get(key, seq); own != v || !ok {
			l = append(l, api.Entry{Key: "Get tells another one of " + key, Value: own})
		}
	}
	return l
}

// P11.4: sweeps of keys whose last version is gone; how many versions go.
func TestSweep(t *testing.T) {
	r, m := begin(t, wide(3))
	for i, x := range []struct {
		l    []api.Write
		gone int // by a sweep behind it
		left int
	}{
		{writes(put("a", "1"), put("b", "1")), 0, 2},
		{writes(gone("a"), gone("x")), 0, 4},
		{writes(put("a", "3"), put("c", "3")), 0, 6},
		{writes(put("d", "4")), 3, 4}, // a of 1 and 2, x
		{writes(gone("b"), gone("d")), 0, 6},
		{writes(put("e", "")), 0, 7},
		{writes(put("a", "7"), put("e", "1")), 4, 5}, // b of 1 and 5, d of 4 and 5
		{writes(put("e", "2")), 0, 6},
		{writes(gone("a"), gone("c"), put("e", "3")), 2, 7}, // a of 3, e of 6
	} {
		next(t, r, m, x.l...)
		n, want := r.Sweep(), m.sweep()
		if n != want || n != x.gone || r.Versions() != x.left {
			t.Errorf("behind commit %d: %d went, %d left; by the model %d; want %d, %d", i+1, n, r.Versions(), want, x.gone, x.left)
		}
		if n := r.Sweep(); n != 0 {
			t.Error("once more", n)
		}
		hold(t, r, m)
	}
}

// P11.4: a room whose keys are all gone has no versions left, once these are too old.
func TestSweepAll(t *testing.T) {
	for size := 1; size <= api.MaxRing; size++ {
		r, m := begin(t, wide(size))
		next(t, r, m, many(16)...)
		var l []api.Write
		for _, x := range many(16) {
			l = append(l, gone(x.Key))
		}
		next(t, r, m, l...)
		for range size {
			sweep(t, r, m)
			hold(t, r, m)
			next(t, r, m, put("a", "x"))
		}
		sweep(t, r, m)
		if r.Versions() != size || r.Keys() != 1 { // those of a alone
			t.Errorf("size %d: %d versions, %d keys", size, r.Versions(), r.Keys())
		}
		hold(t, r, m)
		next(t, r, m, many(16)...)
		hold(t, r, m)
	}
}

// P11.4: a room that has just been loaded has nothing to sweep.
func TestSweepLoaded(t *testing.T) {
	r, m := load(t, wide(2), 9, entry("a", 1, "x"), entry("b", 9, ""))
	sweep(t, r, m)
	hold(t, r, m)
	next(t, r, m, gone("a"))
	sweep(t, r, m)
	next(t, r, m, put("c", ""))
	sweep(t, r, m)
	hold(t, r, m)
	if r.Versions() != 2 {
		t.Error(r.Versions())
	}
}

// walker commits and sweeps by a fixed row of numbers.
type walker struct {
	*rand.Rand
	keys  []string
	stamp uint64
}

func (x *walker) writes() []api.Write {
	var l []api.Write
	for _, key := range x.keys {
		switch x.Intn(6) {
		case 0:
			l = append(l, gone(key))
		case 1:
			l = append(l, put(key, long(x.Intn(12))))
		case 2:
			l = append(l, number(key, float64(x.Intn(5))))
		}
	}
	return l
}

func (x *walker) next() uint64 {
	x.stamp += uint64(x.Intn(4)) // at times one that isn't above the one ahead
	return x.stamp
}

// P11.1 to P11.4: long walks, held against the model step by step.
func TestWalks(t *testing.T) {
	for walk := range 60 {
		x := &walker{Rand: rand.New(rand.NewSource(int64(walk))), keys: []string{"a", "aa", "b", "k", "kk", "z"}[:1+walk%6]}
		s := api.Room{Label: []uint64{9}, Ring: 1 + walk%api.MaxRing, Quota: 20 + 7*(walk%9), Most: 25 + walk}
		r, m := begin(t, s)
		for range 70 {
			switch x.Intn(8) {
			case 0:
				before := m.clone()
				sweep(t, r, m)
				holdKeys(t, r, before, m.floor()) // P11.5: nothing turned there
			case 1:
				l, seq := x.writes(), m.floor()-1+x.Intn(m.setting.Ring+2)
				if err := r.Check(l, seq); err != m.check(l, seq) {
					t.Fatalf("Check(%v, %d) of %v: %d; want %d", l, seq, m.chains, err, m.check(l, seq))
				}
			default:
				commit(t, r, m, x.next(), x.writes()...)
			}
			hold(t, r, m)
		}
	}
}

// P11.5: sweeping turns nothing of what is told at Floor and above, and neither Live, Keys nor Entries; nor what Check tells.
func TestSweepTurnsNothing(t *testing.T) {
	for size := 1; size <= api.MaxRing; size++ {
		x := &walker{Rand: rand.New(rand.NewSource(int64(size))), keys: []string{"a", "b", "c", "d"}}
		r, m := begin(t, of(200, 500, size))
		for range 60 {
			commit(t, r, m, uint64(10*m.seq()+10), x.writes()...)
			before := m.clone()
			live, keys, entries := r.Live(), r.Keys(), r.Entries()
			var rows [][]api.Entry
			for seq := r.Floor(); seq <= r.Seq()+2; seq++ {
				rows = append(rows, told(r, seq))
			}
			r.Sweep()
			m.sweep()
			if r.Live() != live || r.Keys() != keys || !slices.Equal(r.Entries(), entries) {
				t.Fatal("sweeping turned what lives")
			}
			for i, was := range rows {
				if is := told(r, r.Floor()+i); !slices.Equal(is, was) {
					t.Fatalf("at %d of %d: %v; was %v", r.Floor()+i, r.Seq(), is, was)
				}
			}
			for seq := r.Floor(); seq <= r.Seq(); seq++ {
				for _, key := range x.keys {
					l := writes(put(key, "w"))
					if err := r.Check(l, seq); err != before.check(l, seq) {
						t.Fatalf("Check(%v, %d): %d; was %d", l, seq, err, before.check(l, seq))
					}
				}
			}
			holdKeys(t, r, before, before.floor())
			hold(t, r, m)
		}
	}
}

// P11.5: a room that is loaded of another one's Entries tells at the last number what that does, and goes on as that does.
func TestLoadedAgain(t *testing.T) {
	for walk := range 40 {
		x := &walker{Rand: rand.New(rand.NewSource(int64(1000 + walk))), keys: []string{"a", "b", "bb", "c", long(api.MaxKey)}}
		r, m := begin(t, of(150, 60, 1+walk%api.MaxRing))
		for range walk {
			commit(t, r, m, uint64(10*m.seq()+10), x.writes()...)
			if x.Intn(5) == 0 {
				sweep(t, r, m)
			}
		}
		twin, own := load(t, r.Setting(), r.Seq(), r.Entries()...)
		if twin.Live() != r.Live() || twin.Keys() != r.Keys() || twin.Seq() != r.Seq() || twin.Floor() != r.Seq() || twin.Versions() != r.Keys() {
			t.Fatal("the sums differ")
		}
		for _, seq := range []int{r.Seq(), r.Seq() + 1, math.MaxInt} {
			if !slices.Equal(told(twin, seq), told(r, seq)) {
				t.Fatalf("%v; want %v", told(twin, seq), told(r, seq))
			}
		}
		if !slices.Equal(twin.Entries(), r.Entries()) {
			t.Fatal("the entries differ")
		}
		hold(t, twin, own)
		for range 20 {
			l, stamp := x.writes(), uint64(1000+10*m.seq())
			commit(t, r, m, stamp, l...)
			commit(t, twin, own, stamp, l...)
			if !slices.Equal(twin.Entries(), r.Entries()) || twin.Live() != r.Live() {
				t.Fatal("they part")
			}
		}
		hold(t, r, m)
		hold(t, twin, own)
	}
}

// Rule 4: asking turns nothing.
func TestAsked(t *testing.T) {
	r, m := begin(t, of(60, 40, 3))
	for i, l := range scenario() {
		commit(t, r, m, uint64(i+1), l...)
		for range 3 {
			hold(t, r, m)
			r.Check(l, r.Seq())
			r.Check(writes(put("zzz", "x")), r.Seq())
		}
	}
}

// heap tells how many bytes are taken up.
func heap() int {
	runtime.GC()
	runtime.GC()
	var s runtime.MemStats
	runtime.ReadMemStats(&s)
	return int(s.HeapAlloc)
}

// What is swept isn't kept: however many keys come and go, no more is taken up.
func TestKept(t *testing.T) {
	r, _ := begin(t, wide(2))
	took := func() int {
		for range 10000 {
			stamp := uint64(2*r.Seq() + 2)
			key := fmt.Sprint("b", r.Seq())
			r.Commit(writes(put("a", key), put(key, "x")), stamp)
			r.Commit(writes(put("c", long(64))), stamp+1)
			r.Commit(writes(gone("a"), gone(key)), stamp+2)
			if r.Seq()%10 == 0 {
				r.Sweep()
			}
		}
		r.Sweep()
		return heap()
	}
	first := took()
	if last := took(); last > first+100*1024 {
		t.Errorf("%d bytes more are kept", last-first)
	}
	if r.Versions() != 5 { // of a and the last key the two last ones, and that of c
		t.Error(r.Versions())
	}
	runtime.KeepAlive(r)
}

// What a key had isn't kept, once the key is swept.
func TestKeptOfMany(t *testing.T) {
	var l []api.Entry
	for i := range 10000 {
		l = append(l, entry(keyOf(i), 1, fmt.Sprint(i, long(50))))
	}
	r, _ := load(t, wide(1), 1, l...)
	full := heap()
	for i := 0; i < len(l); i += api.MaxWrites {
		var less []api.Write
		for _, x := range l[i : i+api.MaxWrites] {
			less = append(less, gone(x.Key))
		}
		r.Commit(less, uint64(i+1))
	}
	if n := r.Sweep(); n != 20000 || r.Versions() != 0 {
		t.Error(n, r.Versions())
	}
	if left := heap(); full-left < 1000*1024 {
		t.Errorf("of %d bytes %d are left", full, left)
	}
	runtime.KeepAlive(r)
	runtime.KeepAlive(l)
}

// manyKeys are n entries, whose keys rise, three bytes each.
func manyKeys(n int) []api.Entry {
	var l []api.Entry
	for i := range n {
		l = append(l, api.Entry{Key: keyOf(i), Seq: 1 + i%3, Value: api.Value{Text: long(i % 2)}})
	}
	return l
}

func keyOf(i int) string { return string([]byte{byte(i >> 16), byte(i >> 8), byte(i)}) }

// A room has as many keys as its Quota leaves room for, more than a tree takes too.
func TestMoreThanATree(t *testing.T) {
	const n = 2*api.MaxTree + 50
	l := manyKeys(n)
	r, _ := load(t, wide(2), 3, l...)
	if r.Keys() != n || r.Versions() != n || r.Live() != 4*n+n/2 {
		t.Fatal(r.Keys(), r.Versions(), r.Live())
	}
	if !slices.Equal(r.Entries(), l) {
		t.Fatal("the entries differ")
	}
	for i := 0; i < n; i += 997 {
		if v, ok := r.Get(l[i].Key, 3); v != l[i].Value || !ok {
			t.Fatal(i, v, ok)
		}
		if _, ok := r.Get(l[i].Key, l[i].Seq-1); ok {
			t.Fatal(i)
		}
		if k, v, ok := r.Seek(l[i].Key, 3); k != l[i].Key || v != l[i].Value || !ok {
			t.Fatal(i, k, v, ok)
		}
		if k, v, ok := r.After(l[i].Key, 3); i+1 < n && (k != l[i+1].Key || v != l[i+1].Value || !ok) {
			t.Fatal(i, k, v, ok)
		}
	}
	if _, _, ok := r.After(l[n-1].Key, 3); ok {
		t.Error("behind all")
	}
}

// Keys come above what a tree takes by commits as well, and go again by sweeps.
func TestMoreThanATreeByCommits(t *testing.T) {
	const n = api.MaxTree - 8
	l := manyKeys(n)
	r, _ := load(t, wide(1), 3, l...)
	var more []api.Write
	for i := range api.MaxWrites {
		more = append(more, api.Write{Key: keyOf(5000*i) + "+", Value: value.Number(float64(i))})
	}
	if err := r.Check(more, 3); err != api.OK {
		t.Fatal(err)
	}
	if k, err := r.Commit(more, 1); k != 4 || err != api.OK {
		t.Fatal(k, err)
	}
	if r.Keys() != n+16 || r.Versions() != n+16 {
		t.Fatal(r.Keys(), r.Versions())
	}
	for i, x := range more {
		if k, v, ok := r.After(keyOf(5000*i), 4); k != x.Key || v != x.Value || !ok {
			t.Error(i, k, v, ok)
		}
		if k, v, ok := r.After(x.Key, 4); k != keyOf(5000*i+1) || !ok {
			t.Error(i, k, v, ok)
		}
	}
	var less []api.Write
	for i, x := range more {
		if i%2 == 1 {
			x = api.Write{Key: keyOf(5000 * i)}
		}
		less = append(less, gone(x.Key))
	}
	for round := range 3 {
		if _, err := r.Commit(less, uint64(10*round+20)); err != api.OK {
			t.Fatal(err)
		}
		if went := r.Sweep(); went != 32 || r.Versions() != n || r.Keys() != n {
			t.Fatal(went, r.Versions(), r.Keys())
		}
		var back []api.Write
		for _, x := range less {
			back = append(back, put(x.Key, "back"))
		}
		if _, err := r.Commit(back, uint64(10*round+25)); err != api.OK || r.Keys() != n+16 {
			t.Fatal(err, r.Keys())
		}
		if err := r.Check(back, r.Seq()); err != api.OK {
			t.Fatal(err)
		}
		for _, x := range less {
			if v, ok := r.Get(x.Key, r.Seq()); v.Text != "back" || !ok {
				t.Fatal(x, v, ok)
			}
		}
	}
	keys := r.Entries()
	if len(keys) != n+16 || !slices.IsSortedFunc(keys, func(a, b api.Entry) int {
		if a.Key < b.Key {
			return -1
		}
		return 1
	}) {
		t.Error("the keys don't rise", len(keys))
	}
}
