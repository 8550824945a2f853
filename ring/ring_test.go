package ring_test

import (
	"fmt"
	"math"
	"runtime"
	"slices"
	"testing"

	"cloisonne/api"
	"cloisonne/ring"
)

// model is a ring by the chapter's words: it lets go of nothing, and counts what came behind.
type model struct {
	size, began int
	commits     []uint64 // stamps; of the numbers began+1 and on
}

func (m model) seq() int { return m.began + len(m.commits) }

// number tells the number as of a stamp, whether it is too old or not.
func (m model) number(stamp uint64) int {
	n := m.began
	for i, x := range m.commits {
		if x <= stamp {
			n = m.began + i + 1
		}
	}
	return n
}

// tooOld tells whether as many commits as the size, or more, came behind a number.
func (m model) tooOld(n int) bool { return m.seq()-n >= m.size }

func (m model) asOf(stamp uint64) (int, api.Errno) {
	n := m.number(stamp)
	if m.tooOld(n) {
		return 0, api.ErrOld
	}
	return n, api.OK
}

// floor looks for the least number, from what the ring began with on, that isn't too old.
func (m model) floor() int {
	n := m.began
	for m.tooOld(n) {
		n++
	}
	return n
}

func (m *model) push(stamp uint64) (int, api.Errno) {
	if stamp == 0 || len(m.commits) > 0 && stamp <= m.commits[len(m.commits)-1] {
		return 0, api.ErrArg
	}
	if m.seq()+1 > api.MaxSeq {
		return 0, api.ErrSeq
	}
	m.commits = append(m.commits, stamp)
	return m.seq(), api.OK
}

// around are stamps at, below and above each commit's, and at both ends.
func (m model) around() []uint64 {
	l := []uint64{0, 1, 2, math.MaxInt64, math.MaxInt64 + 1, math.MaxUint64 - 1, math.MaxUint64}
	for _, x := range m.commits {
		l = append(l, x, x-1)
		if x < math.MaxUint64 {
			l = append(l, x+1)
		}
	}
	slices.Sort(l)
	return slices.Compact(l)
}

func begin(t *testing.T, size, seq int) (*ring.Ring, *model) {
	t.Helper()
	r, e := ring.New(size, seq)
	if e != api.OK || r == nil {
		t.Fatalf("New(%d, %d): %v, %d", size, seq, r, e)
	}
	return r, &model{size: size, began: seq}
}

// push tries a commit on both.
func push(t *testing.T, r *ring.Ring, m *model, stamp uint64) {
	t.Helper()
	want, wantErr := m.push(stamp)
	if n, e := r.Push(stamp); n != want || e != wantErr {
		t.Fatalf("size %d from %d, %d commits: Push(%d): %d, %d; want %d, %d", m.size, m.began, len(m.commits), stamp, n, e, want, wantErr)
	}
}

// hold holds all that a ring tells against the model.
func hold(t *testing.T, r *ring.Ring, m *model) {
	t.Helper()
	if r.Seq() != m.seq() || r.Size() != m.size || r.Floor() != m.floor() {
		t.Fatalf("size %d from %d, %d commits: Seq %d, Size %d, Floor %d; want floor %d", m.size, m.began, len(m.commits), r.Seq(), r.Size(), r.Floor(), m.floor())
	}
	for _, stamp := range m.around() {
		want, wantErr := m.asOf(stamp)
		if n, e := r.AsOf(stamp); n != want || e != wantErr {
			t.Fatalf("size %d from %d, commits %d: AsOf(%d): %d, %d; want %d, %d", m.size, m.began, m.commits, stamp, n, e, want, wantErr)
		}
	}
}

// P10.1: a size is 1 to MaxRing, a number to begin with 0 to MaxSeq; beside an error there is no ring.
func TestNew(t *testing.T) {
	sizes := map[int]bool{math.MinInt: false, -api.MaxRing: false, -1: false, 0: false, api.MaxRing + 1: false, 2 * api.MaxRing: false, 257: false, 1<<32 + 1: false, math.MaxInt: false}
	for size := 1; size <= api.MaxRing; size++ {
		sizes[size] = true
	}
	seqs := map[int]bool{
		math.MinInt: false, -api.MaxSeq: false, -2: false, -1: false, api.MaxSeq + 1: false, 2 * api.MaxSeq: false, 1 << 32: false, math.MaxInt: false,
		0: true, 1: true, 2: true, 15: true, 16: true, 17: true, api.MaxSeq - 1: true, api.MaxSeq: true,
	}
	for size, sizeRight := range sizes {
		for seq, seqRight := range seqs {
			if sizeRight && seqRight {
				r, m := begin(t, size, seq)
				hold(t, r, m)
				continue
			}
			if r, e := ring.New(size, seq); r != nil || e != api.ErrArg {
				t.Errorf("New(%d, %d): %v, %d", size, seq, r, e)
			}
		}
	}
}

// P10.1: rings that are made alike are not one.
func TestNewTwice(t *testing.T) {
	a, m := begin(t, 2, 5)
	b, _ := begin(t, 2, 5)
	b.Push(1)
	hold(t, a, m)
}

// P10.1, P10.2: of each size, from fewer commits than it to many more, each answer is as the words tell.
func TestCommits(t *testing.T) {
	for size := 1; size <= api.MaxRing; size++ {
		for _, seq := range []int{0, 1, 2, size - 1, size, size + 1, 1000, api.MaxSeq - 3*api.MaxRing, api.MaxSeq - size - 1, api.MaxSeq - size, api.MaxSeq - 1} {
			r, m := begin(t, size, seq)
			hold(t, r, m)
			for i := range 3*api.MaxRing + 2 {
				push(t, r, m, uint64(5+3*i+i%2)) // some stand side by side but for one stamp, some but for more
				hold(t, r, m)
			}
		}
	}
}

// P10.1: a stamp is above the one ahead, and above 0; the number is the next one.
func TestPush(t *testing.T) {
	r, _ := begin(t, 3, 10)
	tell := func(stamp uint64, want int, wantErr api.Errno) {
		t.Helper()
		if n, e := r.Push(stamp); n != want || e != wantErr {
			t.Errorf("Push(%d): %d, %d; want %d, %d", stamp, n, e, want, wantErr)
		}
	}
	tell(0, 0, api.ErrArg)
	tell(1, 11, api.OK)
	tell(0, 0, api.ErrArg)
	tell(1, 0, api.ErrArg)
	tell(2, 12, api.OK)
	tell(2, 0, api.ErrArg)
	tell(1, 0, api.ErrArg)
	tell(math.MaxUint32+3, 13, api.OK)
	tell(2, 0, api.ErrArg)
	tell(3, 0, api.ErrArg) // were but the low bits looked at, it would be above
	tell(math.MaxUint32+2, 0, api.ErrArg)
	tell(math.MaxInt64, 14, api.OK)
	tell(math.MaxInt64+1, 15, api.OK) // were it read as a number with a sign, it would be below
	tell(math.MaxInt64, 0, api.ErrArg)
	tell(math.MaxUint64, 16, api.OK)
	for _, stamp := range []uint64{0, 1, math.MaxInt64, math.MaxUint64 - 1, math.MaxUint64} {
		tell(stamp, 0, api.ErrArg)
	}
	if n, e := r.AsOf(math.MaxUint64 - 1); n != 15 || e != api.OK {
		t.Error(n, e)
	}
}

// P10.1: the least stamp that may be is 1, and the greatest may be the first one.
func TestFirstStamp(t *testing.T) {
	for _, stamp := range []uint64{1, 2, math.MaxInt64 + 1, math.MaxUint64} {
		r, m := begin(t, 2, 0)
		push(t, r, m, stamp)
		hold(t, r, m)
		push(t, r, m, stamp)
		push(t, r, m, stamp-1)
		hold(t, r, m)
	}
}

// P10.1: a ring looks at the commit right ahead, not at one that it let go of, nor at what it began with.
func TestPushAhead(t *testing.T) {
	for size := 1; size <= api.MaxRing; size++ {
		r, m := begin(t, size, 7)
		for i := range 2 * api.MaxRing {
			for _, x := range m.around() {
				if x <= uint64(10*i) {
					push(t, r, m, x)
				}
			}
			hold(t, r, m)
			push(t, r, m, uint64(10*i+10))
			hold(t, r, m)
		}
	}
	r, m := begin(t, 4, 1000)
	push(t, r, m, 3) // below the number that it began with
	hold(t, r, m)
}

// P10.1: no number is above MaxSeq; a stamp that is wrong is told ahead of that.
func TestPushSeq(t *testing.T) {
	for size := 1; size <= api.MaxRing; size++ {
		for left := range 2*size + 2 {
			r, m := begin(t, size, api.MaxSeq-left)
			for i := range left {
				push(t, r, m, uint64(2*i+2))
			}
			last := uint64(2 * left)
			if r.Seq() != api.MaxSeq {
				t.Fatal(r.Seq())
			}
			for _, stamp := range []uint64{last + 1, last + 2, math.MaxUint64} {
				if n, e := r.Push(stamp); n != 0 || e != api.ErrSeq {
					t.Fatalf("size %d, %d left: Push(%d): %d, %d", size, left, stamp, n, e)
				}
			}
			for _, stamp := range []uint64{0, last / 2, last} {
				if n, e := r.Push(stamp); n != 0 || e != api.ErrArg {
					t.Fatalf("size %d, %d left: Push(%d): %d, %d", size, left, stamp, n, e)
				}
			}
			hold(t, r, m)
		}
	}
}

// P10.1, rule 2: a Push that is refused turns nothing, nor the stamp that the next one has to be above.
func TestRefused(t *testing.T) {
	for size := 1; size <= api.MaxRing; size++ {
		for _, seq := range []int{0, api.MaxSeq - 5} {
			r, m := begin(t, size, seq)
			for i := range 2 * api.MaxRing {
				stamp := uint64(10 * (i + 1))
				if len(m.commits) > 0 {
					last := m.commits[len(m.commits)-1]
					for _, x := range []uint64{0, 1, last - 1, last} {
						if n, e := r.Push(x); n != 0 || e != api.ErrArg {
							t.Fatalf("Push(%d): %d, %d", x, n, e)
						}
						hold(t, r, m)
					}
				}
				if m.seq() == api.MaxSeq {
					if n, e := r.Push(math.MaxUint64); n != 0 || e != api.ErrSeq {
						t.Fatal(n, e)
					}
				}
				push(t, r, m, stamp)
				hold(t, r, m)
			}
		}
	}
}

// P10.2: without commits each stamp is as of what the ring began with.
func TestNoCommits(t *testing.T) {
	for size := 1; size <= api.MaxRing; size++ {
		for _, seq := range []int{0, 1, 15, 16, 17, 500, api.MaxSeq} {
			r, _ := begin(t, size, seq)
			for _, stamp := range []uint64{0, 1, 2, 500, math.MaxInt64 + 1, math.MaxUint64} {
				if n, e := r.AsOf(stamp); n != seq || e != api.OK {
					t.Fatalf("AsOf(%d): %d, %d", stamp, n, e)
				}
			}
			if r.Floor() != seq || r.Seq() != seq || r.Size() != size {
				t.Fatal(r.Floor(), r.Seq(), r.Size())
			}
		}
	}
}

// P10.2: a number with one commit fewer than the size behind it can be told; with as many, or more, it is too old.
func TestTooOld(t *testing.T) {
	for size := 1; size <= api.MaxRing; size++ {
		r, _ := begin(t, size, 20)
		tell := func(stamp uint64, want int, wantErr api.Errno) {
			t.Helper()
			if n, e := r.AsOf(stamp); n != want || e != wantErr {
				t.Fatalf("size %d, %d commits: AsOf(%d): %d, %d; want %d, %d", size, r.Seq()-20, stamp, n, e, want, wantErr)
			}
		}
		for i := range size - 1 {
			r.Push(uint64(100 + 10*i))
			tell(99, 20, api.OK) // below the first one
			tell(0, 20, api.OK)
		}
		r.Push(uint64(100 + 10*(size-1)))
		tell(99, 0, api.ErrOld)
		tell(0, 0, api.ErrOld)
		tell(100, 21, api.OK)
		tell(109, 21, api.OK)
		r.Push(5000)
		tell(0, 0, api.ErrOld)
		tell(99, 0, api.ErrOld)
		tell(100, 0, api.ErrOld) // its commit is let go of
		tell(109, 0, api.ErrOld)
		tell(5000, 21+size, api.OK)
		tell(math.MaxUint64, 21+size, api.OK)
		if size > 1 {
			tell(110, 22, api.OK)
			tell(119, 22, api.OK)
			tell(4999, 20+size, api.OK)
		} else {
			tell(4999, 0, api.ErrOld)
		}
	}
}

// P10.2: the floor is what the ring began with, as long as that is more than Seq less Size and one.
func TestFloor(t *testing.T) {
	for size := 1; size <= api.MaxRing; size++ {
		for _, seq := range []int{0, 3, 40} {
			r, _ := begin(t, size, seq)
			for i := range 3 * api.MaxRing {
				if want := max(seq, seq+i-size+1); r.Floor() != want {
					t.Fatalf("size %d from %d, %d commits: Floor %d; want %d", size, seq, i, r.Floor(), want)
				}
				r.Push(uint64(i + 1))
			}
		}
	}
}

// P10.3: the floor never falls; what is as of a stamp isn't below it, and a greater stamp's isn't less; all from the floor on is as of some stamp.
func TestFollows(t *testing.T) {
	for size := 1; size <= api.MaxRing; size++ {
		for _, seq := range []int{0, 9, api.MaxSeq - 20} {
			r, m := begin(t, size, seq)
			floor := r.Floor()
			for i := range 40 {
				r.Push(uint64(1 + i + i*i/3))
				m.push(uint64(1 + i + i*i/3))
				if r.Floor() < floor {
					t.Fatalf("the floor fell from %d to %d", floor, r.Floor())
				}
				floor = r.Floor()
				ahead, told := floor, 0
				for _, stamp := range m.around() {
					n, e := r.AsOf(stamp)
					if e != api.OK {
						if told > 0 {
							t.Fatalf("AsOf(%d) is too old, a lower stamp isn't", stamp)
						}
						continue
					}
					if n < ahead || n > ahead+1 || n > r.Seq() {
						t.Fatalf("AsOf(%d): %d behind %d", stamp, n, ahead)
					}
					if told == 0 && n != floor {
						t.Fatalf("AsOf(%d): the least is %d, the floor %d", stamp, n, floor)
					}
					ahead = n
					told++
				}
				if ahead != r.Seq() {
					t.Fatalf("the greatest is %d of %d", ahead, r.Seq())
				}
			}
		}
	}
}

// P10.1: a clone tells the same, and each goes its own way.
func TestClone(t *testing.T) {
	for size := 1; size <= api.MaxRing; size++ {
		for commits := range 2*api.MaxRing + 3 {
			for _, seq := range []int{0, 30, api.MaxSeq - api.MaxRing} {
				r, m := begin(t, size, seq)
				for i := range commits {
					push(t, r, m, uint64(10*i+10))
				}
				c := r.Clone()
				if c == nil || c == r {
					t.Fatal(c)
				}
				own := &model{size: m.size, began: m.began, commits: slices.Clone(m.commits)}
				hold(t, c, own)
				for i := range size + 2 { // by turns, each with stamps of its own
					push(t, r, m, uint64(10*(commits+i)+11))
					hold(t, r, m)
					hold(t, c, own)
					push(t, c, own, uint64(10*(commits+i)+17))
					hold(t, r, m)
					hold(t, c, own)
				}
				hold(t, c.Clone(), own)
			}
		}
	}
}

// P10.1: a clone stays as it is while the other one goes on, whichever of them that is.
func TestCloneStays(t *testing.T) {
	for size := 1; size <= api.MaxRing; size++ {
		for commits := range api.MaxRing + 2 {
			for _, ofClone := range []bool{false, true} {
				r, m := begin(t, size, 0)
				for i := range commits {
					push(t, r, m, uint64(3*i+3))
				}
				goes, stays := r, r.Clone()
				if ofClone {
					goes, stays = stays, goes
				}
				for i := range 2 * api.MaxRing {
					goes.Push(uint64(1000 + i))
					hold(t, stays, m)
				}
				push(t, stays, m, uint64(3*commits+1)) // above the last one of its own, below the other one's
				hold(t, stays, m)
			}
		}
	}
}

// The last so many commits alone are kept, so that what a ring takes up doesn't hang on how many there were.
func TestKept(t *testing.T) {
	r, _ := begin(t, 3, api.MaxSeq/2)
	for i := range 100000 {
		r.Push(uint64(i + 1))
	}
	var ahead, behind runtime.MemStats
	runtime.ReadMemStats(&ahead)
	c := r.Clone()
	runtime.ReadMemStats(&behind)
	if taken := behind.TotalAlloc - ahead.TotalAlloc; taken > 16*1024 {
		t.Errorf("a clone of a ring of %d takes %d bytes", c.Size(), taken)
	}
}

// A nil ring: ErrNil, 0, nil, whatever is asked.
func TestNil(t *testing.T) {
	var r *ring.Ring
	for _, stamp := range []uint64{0, 1, 7, math.MaxUint64} {
		if n, e := r.Push(stamp); n != 0 || e != api.ErrNil {
			t.Error(stamp, n, e)
		}
		if n, e := r.AsOf(stamp); n != 0 || e != api.ErrNil {
			t.Error(stamp, n, e)
		}
	}
	if r.Seq() != 0 || r.Size() != 0 || r.Floor() != 0 || r.Clone() != nil {
		t.Error(r.Seq(), r.Size(), r.Floor(), r.Clone())
	}
}

// Rule 1: none panics, not on a ring that no call made either.
func TestNoneMade(t *testing.T) {
	var r ring.Ring
	for range 3 {
		r.AsOf(0)
		r.AsOf(5)
		r.Push(0)
		r.Push(uint64(r.Seq() + 1))
		r.Floor()
		r.Size()
		r.Clone().Push(9)
	}
}

// Rule 4: asking turns nothing.
func TestAsked(t *testing.T) {
	r, m := begin(t, 3, 2)
	for _, stamp := range []uint64{4, 8, 9, 20} {
		push(t, r, m, stamp)
		for range 3 {
			hold(t, r, m)
		}
	}
}

func ExampleRing_AsOf() {
	r, _ := ring.New(2, 0)
	for _, stamp := range []uint64{5, 7, 9} {
		r.Push(stamp)
	}
	for _, stamp := range []uint64{9, 8, 7, 6} {
		n, err := r.AsOf(stamp)
		fmt.Println(stamp, n, err == api.ErrOld)
	}
	fmt.Println(r.Floor())
	// Output:
	// 9 3 false
	// 8 2 false
	// 7 2 false
	// 6 0 true
	// 2
}

func ExampleRing_Clone() {
	r, _ := ring.New(4, 10)
	r.Push(3)
	c := r.Clone()
	r.Push(8)
	n, _ := r.AsOf(8)
	own, _ := c.AsOf(8)
	fmt.Println(n, own)
	// Output: 12 11
}
