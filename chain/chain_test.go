package chain_test

import (
	"fmt"
	"math"
	"slices"
	"strings"
	"testing"
	"unsafe"

	"cloisonne/api"
	"cloisonne/chain"
	"cloisonne/value"
)

const (
	oneBits = 0x3FF0000000000000
	nanBits = 0x7FF8000000000001
)

func put(seq int, s string) api.Version { return with(seq, api.Value{Text: s}) }
func gone(seq int) api.Version          { return api.Version{Seq: seq, Gone: true} }

func with(seq int, v api.Value) api.Version      { return api.Version{Seq: seq, Value: v} }
func number(seq int, x float64) api.Version      { return with(seq, value.Number(x)) }
func long(n int) string                          { return strings.Repeat("x", n) }
func list(l ...api.Version) []api.Version        { return l }
func same(a, b []api.Version) bool               { return slices.Equal(a, b) }
func behind(l []api.Version, v api.Version) bool { return len(l) > 0 && l[len(l)-1] == v }

// rightValues may be.
func rightValues() []api.Value {
	l := []api.Value{{}, {Text: "a"}, {Text: "\x00"}, {Text: long(api.MaxValue - 1)}, {Text: long(api.MaxValue)}, {Text: strings.Repeat("\xff", api.MaxValue)}}
	for _, x := range []float64{0, math.Copysign(0, -1), 1, -1, 5e-324, math.MaxFloat64, math.Inf(1), math.Inf(-1), math.NaN()} {
		l = append(l, value.Number(x))
	}
	return l
}

// wrongValues may not be: too long a text, a text beside a number, bits that no number has, bits without a number.
func wrongValues() []api.Value {
	return []api.Value{
		{Text: long(api.MaxValue + 1)}, {Text: long(255)}, {Text: long(256)}, {Text: long(256 + api.MaxValue)}, {Text: long(5000)},
		{Number: true, Text: "x"}, {Number: true, Text: "\x00"}, {Number: true, Text: "x", Bits: oneBits}, {Number: true, Text: "x", Bits: nanBits}, {Number: true, Text: long(api.MaxValue + 1)},
		{Number: true, Bits: nanBits + 1}, {Number: true, Bits: nanBits - 1}, {Number: true, Bits: 0x7FF0000000000001}, {Number: true, Bits: 0xFFF8000000000001}, {Number: true, Bits: math.MaxUint64},
		{Bits: 1}, {Bits: oneBits}, {Bits: nanBits}, {Bits: math.MaxUint64}, {Text: "x", Bits: 1}, {Text: long(api.MaxValue + 1), Bits: 1},
	}
}

// chains are right, of none, one and many versions.
func chains() [][]api.Version {
	l := [][]api.Version{
		nil, {},
		list(put(1, "a")), list(put(1, "")), list(gone(1)), list(number(1, 0)),
		list(put(2, "a")), list(put(api.MaxSeq, "a")), list(gone(api.MaxSeq)), list(number(api.MaxSeq, 7)),
		list(put(1, "a"), put(2, "b")), list(put(1, "a"), put(api.MaxSeq, "a")), list(put(api.MaxSeq-1, ""), gone(api.MaxSeq)),
		list(gone(1), gone(2)), list(gone(3), put(9, "a")), list(number(3, 1), gone(4), number(5, math.NaN())),
		list(put(2, "a"), gone(4), put(7, "bc"), gone(9)),
		list(put(2, "a"), put(5, "b"), put(9, "c")),
		list(put(1, "same"), put(2, "same"), put(3, "same")),
		list(gone(2), gone(5), gone(9), put(11, "a"), gone(12), gone(20), number(21, -1)),
	}
	var every []api.Version
	for i, v := range rightValues() {
		l = append(l, list(with(1, v)), list(gone(5), with(6, v)), list(put(5, "a"), with(api.MaxSeq, v)))
		every = append(every, with(3*i+2, v))
	}
	var many []api.Version
	for i := range 1000 {
		v := put(i+1, fmt.Sprint(i))
		if i%3 == 2 {
			v = gone(i + 1)
		}
		many = append(many, v)
	}
	return append(l, every, many)
}

// wrongVersions may not stand in any chain.
func wrongVersions() []api.Version {
	var l []api.Version
	for _, v := range wrongValues() {
		l = append(l, with(5, v), api.Version{Seq: 5, Gone: true, Value: v})
	}
	for _, v := range rightValues() {
		if v != (api.Value{}) {
			l = append(l, api.Version{Seq: 5, Gone: true, Value: v})
		}
	}
	l = append(l, api.Version{Seq: 5, Gone: true, Value: api.Value{Number: true}}) // nought is a value, too
	for _, seq := range []int{0, -1, -5, math.MinInt, -api.MaxSeq, api.MaxSeq + 1, api.MaxSeq + 5, 2*api.MaxSeq + 5, math.MaxInt, math.MaxInt - 1, 1<<32 + 5} {
		l = append(l, put(seq, "a"), gone(seq), number(seq, 1), put(seq, ""))
	}
	return l
}

// noChains are none: a version that may not be, at each place, or Seqs that don't rise.
func noChains() [][]api.Version {
	l := [][]api.Version{
		list(put(1, "a"), put(1, "a")), list(put(1, "a"), put(1, "b")), list(put(2, "a"), put(1, "b")), list(gone(3), gone(3)), list(put(3, "a"), gone(3)), list(gone(3), put(3, "a")),
		list(put(api.MaxSeq, "a"), put(api.MaxSeq, "a")), list(put(api.MaxSeq, "a"), put(api.MaxSeq+1, "a")), list(put(0, "a"), put(1, "a")), list(gone(-1), gone(0), gone(1)),
		list(put(1, "a"), put(2, "b"), put(2, "c")), list(put(1, "a"), put(3, "b"), put(2, "c")), list(put(1, "a"), put(3, "b"), put(3, "c"), put(4, "d")), list(put(1, "a"), put(4, "b"), put(3, "c"), put(5, "d")),
		list(put(2, "a"), put(5, "b"), put(1, "c")), list(put(9, "a"), put(5, "b"), put(7, "c")), list(put(5, "a"), put(5, "b"), put(7, "c")),
		list(put(2, "a"), put(4, "b"), put(6, "c"), gone(1)), list(put(2, "a"), put(4, "b"), put(6, "c"), put(6, "c")),
		list(put(math.MaxInt, "a"), put(math.MinInt, "a")),
	}
	for _, v := range wrongVersions() {
		l = append(l, list(v), list(v, put(7, "a")), list(put(3, "a"), v), list(put(3, "a"), v, put(7, "a")), list(put(3, "a"), gone(4), v, put(7, "a"), gone(9)), list(gone(3), v, gone(7)))
	}
	return l
}

// small has all chains of Seqs up to most, whose versions are bytes or Gone, of each Seq.
func small(most int) [][]api.Version {
	l := [][]api.Version{nil}
	for seq := 1; seq <= most; seq++ {
		for _, c := range l[:len(l):len(l)] {
			l = append(l, append(slices.Clone(c), put(seq, fmt.Sprint("at", seq))), append(slices.Clone(c), gone(seq)))
		}
	}
	return l
}

// numbers are those worth asking of a chain: below it, at each Seq, right ahead and behind of it, above, and the ends.
func numbers(l []api.Version) []int {
	n := []int{math.MinInt, -api.MaxSeq, -5, -1, 0, 1, 2, api.MaxSeq - 1, api.MaxSeq, api.MaxSeq + 1, 1<<32 + 3, math.MaxInt - 1, math.MaxInt}
	for _, v := range l[:min(len(l), 40)] {
		n = append(n, v.Seq-1, v.Seq, v.Seq+1)
	}
	slices.Sort(n)
	return slices.Compact(n)
}

// at tells the version at a number as the chapter's words do.
func at(l []api.Version, seq int) (api.Version, bool) {
	var last api.Version
	there := false
	for _, v := range l {
		if v.Seq <= seq {
			last, there = v, true
		}
	}
	if !there || last.Gone {
		return api.Version{}, false
	}
	return last, true
}

// swept sweeps as the chapter's words tell.
func swept(l []api.Version, floor int) []api.Version {
	var left []api.Version
	for i, v := range l {
		over := i+1 < len(l) && l[i+1].Seq <= floor
		if !over {
			left = append(left, v)
		}
	}
	if len(left) > 0 && left[0].Gone && left[0].Seq <= floor {
		left = left[1:]
	}
	return left
}

// P9.1: Right.

func TestRight(t *testing.T) {
	for _, l := range append(chains(), small(6)...) {
		if !chain.Right(l) {
			t.Errorf("%v is a chain", l)
		}
	}
}

func TestRightOfNone(t *testing.T) {
	for _, l := range noChains() {
		if chain.Right(l) {
			t.Errorf("%v is no chain", l)
		}
	}
}

func TestRightOfAllSeqs(t *testing.T) {
	some := []int{math.MinInt, -1, 0, 1, 2, 3, api.MaxSeq - 1, api.MaxSeq, api.MaxSeq + 1, math.MaxInt}
	may := func(l ...int) bool {
		ahead := 0
		for _, seq := range l {
			if seq <= ahead || seq > 1<<30 {
				return false
			}
			ahead = seq
		}
		return true
	}
	for _, a := range some {
		for _, b := range some {
			for _, c := range some {
				if l := list(put(a, "x"), gone(b), number(c, 1)); chain.Right(l) != may(a, b, c) {
					t.Errorf("Seqs %d, %d, %d", a, b, c)
				}
			}
			if l := list(gone(a), put(b, "x")); chain.Right(l) != may(a, b) {
				t.Errorf("Seqs %d, %d", a, b)
			}
		}
		if chain.Right(list(put(a, ""))) != may(a) || chain.Right(list(gone(a))) != may(a) {
			t.Errorf("Seq %d", a)
		}
	}
}

func TestRightOfAllLengthsOfTexts(t *testing.T) {
	for n := range 600 {
		if chain.Right(list(put(1, "a"), put(2, long(n)), put(3, "b"))) != (n <= 64) {
			t.Errorf("%d bytes", n)
		}
		if chain.Right(list(api.Version{Seq: 2, Gone: true, Value: api.Value{Text: long(n)}})) != (n == 0) {
			t.Errorf("Gone with %d bytes", n)
		}
	}
}

// P9.1: Add.

func TestAdd(t *testing.T) {
	for _, l := range append(chains(), small(5)...) {
		last := 0
		if len(l) > 0 {
			last = l[len(l)-1].Seq
		}
		before := slices.Clone(l)
		for _, seq := range []int{math.MinInt, -1, 0, 1, last - 1, last, last + 1, last + 2, last + 100, api.MaxSeq - 1, api.MaxSeq, api.MaxSeq + 1, math.MaxInt} {
			for _, v := range []api.Version{put(seq, "new"), put(seq, ""), number(seq, 2), gone(seq)} {
				want, wantErr := append(slices.Clone(l), v), api.OK
				if seq <= last || seq > 1<<30 {
					want, wantErr = nil, api.ErrArg
				}
				if m, err := chain.Add(l, v); !same(m, want) || err != wantErr {
					t.Fatalf("%v and %v: %v, %d", l, v, m, err)
				}
			}
		}
		if !same(l, before) {
			t.Fatalf("%v was changed to %v", before, l)
		}
	}
}

func TestAddOfAllValues(t *testing.T) {
	for _, l := range [][]api.Version{nil, list(put(2, "a")), list(gone(3)), list(put(2, "a"), gone(4))} {
		for _, x := range rightValues() {
			v := with(5, x)
			if m, err := chain.Add(l, v); !same(m, append(slices.Clone(l), v)) || err != api.OK {
				t.Errorf("%v and %v: %v, %d", l, v, m, err)
			}
		}
		for _, v := range wrongVersions() {
			if m, err := chain.Add(l, v); len(m) != 0 || err != api.ErrArg {
				t.Errorf("%v and %v: %v, %d", l, v, m, err)
			}
		}
	}
}

func TestAddBehindNoChain(t *testing.T) {
	for _, l := range noChains() {
		before := slices.Clone(l)
		for _, v := range []api.Version{put(5, "a"), gone(8), put(10, "a"), gone(10), number(11, 1), put(api.MaxSeq, ""), put(0, ""), {}} {
			if m, err := chain.Add(l, v); len(m) != 0 || err != api.ErrArg {
				t.Errorf("%v and %v: %v, %d", l, v, m, err)
			}
		}
		if !same(l, before) {
			t.Errorf("%v was changed to %v", before, l)
		}
	}
}

func TestAddOneByOne(t *testing.T) {
	for _, l := range chains() {
		var m []api.Version
		for i, v := range l {
			more, err := chain.Add(m, v)
			if err != api.OK || !same(m, l[:i]) || !same(more, l[:i+1]) {
				t.Fatalf("%v and %v: %v, %d", m, v, more, err)
			}
			m = more
		}
	}
}

// Two that are laid behind one chain don't know of one another.
func TestAddTwiceBehindOneChain(t *testing.T) {
	for _, spare := range []int{0, 1, 2, 8} {
		l := make([]api.Version, 0, 3+spare)
		l = append(l, put(1, "a"), gone(2), put(3, "b"))
		rest := l[3:cap(l)]
		for i := range rest {
			rest[i] = put(99, "spare")
		}
		x, _ := chain.Add(l, put(4, "x"))
		y, _ := chain.Add(l, put(5, "y"))
		xx, _ := chain.Add(x, put(6, "xx"))
		xy, _ := chain.Add(x, gone(7))
		if !behind(x, put(4, "x")) || !behind(y, put(5, "y")) || !behind(xx, put(6, "xx")) || !behind(xy, gone(7)) {
			t.Errorf("spare room %d: %v, %v, %v, %v", spare, x, y, xx, xy)
		}
		for _, m := range [][]api.Version{x, y, xx, xy} {
			for i := range m {
				m[i] = gone(1000 + i)
			}
		}
		if !same(l, list(put(1, "a"), gone(2), put(3, "b"))) {
			t.Errorf("the chain was changed to %v", l)
		}
		for _, v := range rest {
			if v != put(99, "spare") {
				t.Errorf("the spare room was changed to %v", v)
			}
		}
	}
}

// P9.1: At.

func TestAt(t *testing.T) {
	for _, l := range append(chains(), small(6)...) {
		for _, seq := range numbers(l) {
			want, wantOk := at(l, seq)
			if v, ok := chain.At(l, seq); v != want || ok != wantOk {
				t.Fatalf("%v at %d: %v, %v", l, seq, v, ok)
			}
		}
	}
}

func TestAtEdges(t *testing.T) {
	l := list(put(2, "a"), gone(4), put(7, ""), put(8, "d"), gone(11), gone(12), number(api.MaxSeq, 3))
	for seq, want := range map[int]api.Version{
		math.MinInt: {}, -2: {}, 0: {}, 1: {}, 2: l[0], 3: l[0], 4: {}, 5: {}, 6: {}, 7: l[2], 8: l[3], 9: l[3], 10: l[3], 11: {}, 12: {}, 13: {},
		api.MaxSeq - 1: {}, api.MaxSeq: l[6], api.MaxSeq + 1: l[6], math.MaxInt: l[6],
	} {
		if v, ok := chain.At(l, seq); v != want || ok != (want.Seq > 0) {
			t.Errorf("at %d: %v, %v", seq, v, ok)
		}
	}
}

func TestAtOfNoChain(t *testing.T) {
	for _, l := range noChains() {
		for _, seq := range numbers(l) {
			if v, ok := chain.At(l, seq); v != (api.Version{}) || ok {
				t.Errorf("%v at %d: %v, %v", l, seq, v, ok)
			}
		}
	}
}

// P9.1: Last and Weight.

func TestLastAndWeight(t *testing.T) {
	for _, l := range append(chains(), small(5)...) {
		var want api.Version
		weight := 0
		if len(l) > 0 {
			want = l[len(l)-1]
			weight = 1 + len(want.Value.Text)
			if want.Value.Number {
				weight = 9
			}
			if want.Gone {
				weight = 0
			}
		}
		if v, ok := chain.Last(l); v != want || ok != (len(l) > 0) {
			t.Errorf("%v: last %v, %v", l, v, ok)
		}
		if w := chain.Weight(l); w != weight {
			t.Errorf("%v: weight %d, not %d", l, w, weight)
		}
	}
}

func TestWeightEdges(t *testing.T) {
	for i, x := range []struct {
		l    []api.Version
		want int
	}{
		{nil, 0}, {list(gone(1)), 0}, {list(put(1, "abc"), gone(2)), 0}, {list(number(1, 2), gone(api.MaxSeq)), 0},
		{list(put(1, "")), 1}, {list(put(1, "abc")), 4}, {list(put(1, long(64))), 65}, {list(gone(1), put(2, "a")), 2}, {list(put(1, "abc"), put(2, "a")), 2},
		{list(number(1, 0)), 9}, {list(put(1, "abc"), number(2, math.NaN())), 9}, {list(number(1, 1), put(2, "")), 1},
	} {
		if w := chain.Weight(x.l); w != x.want {
			t.Errorf("%d: %v: weight %d, not %d", i, x.l, w, x.want)
		}
	}
}

func TestLastAndWeightOfNoChain(t *testing.T) {
	for _, l := range noChains() {
		if v, ok := chain.Last(l); v != (api.Version{}) || ok {
			t.Errorf("%v: last %v, %v", l, v, ok)
		}
		if w := chain.Weight(l); w != 0 {
			t.Errorf("%v: weight %d", l, w)
		}
	}
}

// P9.1 and P9.2: Old and Sweep.

func TestSweepAndOld(t *testing.T) {
	for _, l := range append(chains(), small(6)...) {
		before := slices.Clone(l)
		for _, floor := range numbers(l) {
			want := swept(l, floor)
			if m := chain.Sweep(l, floor); !same(m, want) {
				t.Fatalf("%v swept by %d: %v, not %v", l, floor, m, want)
			}
			if n := chain.Old(l, floor); n != len(l)-len(want) {
				t.Fatalf("%v swept by %d: %d go, not %d", l, floor, n, len(l)-len(want))
			}
		}
		if !same(l, before) {
			t.Fatalf("%v was changed to %v", before, l)
		}
	}
}

func TestSweepEdges(t *testing.T) {
	rest := list(put(2, "a"), put(5, "b"), put(9, "c"))
	dead := list(put(2, "a"), gone(5), put(9, "c"), gone(12))
	early := list(gone(3), gone(6), put(8, "x"))
	for i, x := range []struct {
		l     []api.Version
		floor int
		goes  int
	}{
		{nil, 0, 0}, {nil, math.MaxInt, 0}, {list(put(1, "a")), math.MaxInt, 0}, {list(put(api.MaxSeq, "a")), api.MaxSeq, 0}, // the last one never goes, unless it is Gone
		{rest, math.MinInt, 0}, {rest, 0, 0}, {rest, 1, 0}, {rest, 2, 0}, {rest, 4, 0}, {rest, 5, 1}, {rest, 8, 1}, {rest, 9, 2}, {rest, 10, 2}, {rest, math.MaxInt, 2},
		{dead, 1, 0}, {dead, 2, 0}, {dead, 4, 0}, {dead, 5, 2}, {dead, 8, 2}, {dead, 9, 2}, {dead, 11, 2}, {dead, 12, 4}, {dead, math.MaxInt, 4},
		{early, -1, 0}, {early, 2, 0}, {early, 3, 1}, {early, 5, 1}, {early, 6, 2}, {early, 7, 2}, {early, 8, 2}, {early, 99, 2},
		{list(gone(1)), 0, 0}, {list(gone(1)), 1, 1}, {list(gone(api.MaxSeq)), api.MaxSeq - 1, 0}, {list(gone(api.MaxSeq)), api.MaxSeq, 1}, {list(gone(7)), math.MaxInt, 1},
	} {
		if m := chain.Sweep(x.l, x.floor); !same(m, x.l[x.goes:]) {
			t.Errorf("%d: %v swept by %d: %v", i, x.l, x.floor, m)
		}
		if n := chain.Old(x.l, x.floor); n != x.goes {
			t.Errorf("%d: %v swept by %d: %d go, not %d", i, x.l, x.floor, n, x.goes)
		}
	}
}

func TestSweepAndOldOfNoChain(t *testing.T) {
	for _, l := range noChains() {
		before := slices.Clone(l)
		for _, floor := range numbers(l) {
			if m := chain.Sweep(l, floor); len(m) != 0 {
				t.Errorf("%v swept by %d: %v", l, floor, m)
			}
			if n := chain.Old(l, floor); n != 0 {
				t.Errorf("%v swept by %d: %d go", l, floor, n)
			}
		}
		if !same(l, before) {
			t.Errorf("%v was changed to %v", before, l)
		}
	}
}

// P9.3

func TestSweepingTurnsNothingAtTheFloorOrAbove(t *testing.T) {
	for _, l := range append(chains(), small(6)...) {
		asked := numbers(l)
		for _, floor := range asked {
			m := chain.Sweep(l, floor)
			if !chain.Right(m) || chain.Weight(m) != chain.Weight(l) {
				t.Fatalf("%v swept by %d: %v, weight %d", l, floor, m, chain.Weight(m))
			}
			for _, seq := range asked {
				if seq < floor {
					continue
				}
				want, wantOk := chain.At(l, seq)
				if v, ok := chain.At(m, seq); v != want || ok != wantOk {
					t.Fatalf("%v swept by %d, at %d: %v, %v, not %v, %v", l, floor, seq, v, ok, want, wantOk)
				}
			}
		}
	}
}

func TestSweepingTwice(t *testing.T) {
	for _, l := range append(chains(), small(6)...) {
		asked := numbers(l)
		for _, one := range asked {
			m := chain.Sweep(l, one)
			if chain.Old(m, one) != 0 || !same(chain.Sweep(m, one), m) {
				t.Fatalf("%v swept by %d twice: %v, %d go", l, one, chain.Sweep(m, one), chain.Old(m, one))
			}
			for _, two := range asked {
				if n := chain.Sweep(m, two); !same(n, chain.Sweep(l, max(one, two))) {
					t.Fatalf("%v swept by %d, and by %d: %v", l, one, two, n)
				}
			}
		}
	}
}

// A chain that is swept goes on as the one that isn't does.
func TestAddBehindASweep(t *testing.T) {
	for _, l := range small(5) {
		for floor := -1; floor <= 7; floor++ {
			whole, _ := chain.Add(l, put(8, "x"))
			m, err := chain.Add(chain.Sweep(l, floor), put(8, "x"))
			if err != api.OK || len(m) != len(whole)-chain.Old(l, floor) {
				t.Fatalf("%v swept by %d: %v, %d", l, floor, m, err)
			}
			for seq := max(floor, 0); seq <= 9; seq++ {
				v, ok := chain.At(m, seq)
				if w, is := chain.At(whole, seq); v != w || ok != is {
					t.Fatalf("%v swept by %d, at %d: %v, not %v", l, floor, seq, v, w)
				}
			}
		}
	}
}

// What is answered is new memory, what is handed in isn't changed (rule 3).

func TestWhatIsSweptIsOfItsOwn(t *testing.T) {
	l := list(put(2, "a"), put(5, "b"), gone(9), put(12, "c"))[:4:4]
	for floor := -1; floor <= 13; floor++ {
		m := chain.Sweep(l, floor)
		for i := range m {
			m[i] = gone(1000)
		}
		_ = append(m, gone(1001))
		if !same(l, list(put(2, "a"), put(5, "b"), gone(9), put(12, "c"))) {
			t.Fatalf("by %d: the chain was changed to %v", floor, l)
		}
	}
}

func shares(a, b string) bool {
	from, to := uintptr(unsafe.Pointer(unsafe.StringData(a))), uintptr(unsafe.Pointer(unsafe.StringData(b)))
	return a != "" && b != "" && from < to+uintptr(len(b)) && to < from+uintptr(len(a))
}

func TestTextsAreNewMemory(t *testing.T) {
	l := list(put(1, long(3)), put(2, long(64)), gone(3), put(4, long(7)))
	v := put(5, long(9))
	more, _ := chain.Add(l, v)
	told, _ := chain.At(l, 2)
	last, _ := chain.Last(l)
	answers := append(slices.Concat(more, chain.Sweep(l, 0), chain.Sweep(l, 2)), told, last)
	for i, x := range answers {
		for _, in := range append(slices.Clone(l), v) {
			if shares(x.Value.Text, in.Value.Text) {
				t.Errorf("answer %d, %v, shares %v", i, x, in)
			}
		}
	}
}

func ExampleAt() {
	l := []api.Version{put(2, "a"), put(5, "b"), put(9, "c")}
	v, ok := chain.At(l, 7)
	fmt.Println(v.Value.Text, v.Seq, ok)
	// Output: b 5 true
}

func ExampleSweep() {
	l := []api.Version{put(2, "a"), put(5, "b"), put(9, "c")}
	for _, v := range chain.Sweep(l, 5) {
		fmt.Println(v.Seq, v.Value.Text)
	}
	// Output:
	// 5 b
	// 9 c
}
