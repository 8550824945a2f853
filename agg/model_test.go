package agg_test

import (
	"cmp"
	"fmt"
	"math"
	"math/big"
	"slices"
	"testing"

	"cloisonne/agg"
	"cloisonne/api"
)

// The model reckons by whole numbers of any size: each finite number is some times the least one above nought.

const leastPlace = -1074 // the least number above nought is two to that

// times tells how many times the least number a finite one is.
func times(x float64) *big.Int {
	part, power := math.Frexp(x) // x is part times two to the power, and part has 53 bits behind the point
	n := big.NewInt(int64(math.Ldexp(part, 53)))
	if shift := power - 53 - leastPlace; shift < 0 {
		return n.Rsh(n, uint(-shift)) // what goes are noughts
	} else {
		return n.Lsh(n, uint(shift))
	}
}

// nearest tells the number next to n by d of the least one; of two that are as near the one whose last bit is 0.
func nearest(n, d *big.Int, minus bool) float64 {
	n, d = new(big.Int).Abs(n), new(big.Int).Set(d)
	places := max(n.BitLen()-d.BitLen()-53, 0) // 54 bits are left, or 53
	if new(big.Int).Rsh(n, uint(places)+53).Cmp(d) >= 0 {
		places++
	}
	d.Lsh(d, uint(places))
	whole, rest := new(big.Int).QuoRem(n, d, new(big.Int))
	if half := rest.Lsh(rest, 1).Cmp(d); half > 0 || half == 0 && whole.Bit(0) == 1 {
		whole.Add(whole, big.NewInt(1))
	}
	x := math.Ldexp(float64(whole.Int64()), places+leastPlace) // all of it is kept, but beyond the greatest
	if minus {
		return -x
	}
	return x
}

func finite(x float64) bool { return !math.IsNaN(x) && !math.IsInf(x, 0) }

// sumOf adds number by number, from nought on.
func sumOf(l []float64) float64 {
	sum := 0.0
	for _, x := range l {
		switch {
		case math.IsNaN(sum):
		case math.IsNaN(x), math.IsInf(sum, 0) && math.IsInf(x, 0) && sum != x:
			sum = math.NaN()
		case !finite(sum):
		case !finite(x):
			sum = x
		default:
			n := new(big.Int).Add(times(sum), times(x))
			sum = nearest(n, big.NewInt(1), n.Sign() < 0) // no sum is a minus nought: the first one is nought and some
		}
	}
	return sum
}

// meanOf tells what a sum of as many is for each.
func meanOf(sum float64, count int) float64 {
	if !finite(sum) {
		return sum
	}
	return nearest(times(sum), big.NewInt(int64(count)), math.Signbit(sum))
}

func bits(x float64) uint64 {
	if math.IsNaN(x) {
		return 0x7FF8000000000001
	}
	return math.Float64bits(x)
}

// inOrder tells numbers in their order: minus nought ahead of nought, the NaN last.
func inOrder(l []float64) []float64 {
	return slices.SortedFunc(slices.Values(l), func(a, b float64) int {
		nans := cmp.Compare(len(nanOf(a)), len(nanOf(b)))
		return cmp.Or(nans, cmp.Compare(a, b), cmp.Compare(math.Copysign(1, a), math.Copysign(1, b)))
	})
}

func nanOf(x float64) []float64 {
	if math.IsNaN(x) {
		return []float64{x}
	}
	return nil
}

// tallyOf tells the tally of numbers by the chapter's words.
func tallyOf(l []float64) api.Tally {
	if len(l) == 0 {
		return api.Tally{}
	}
	sum, order := sumOf(l), inOrder(l)
	return api.Tally{Count: len(l), Sum: bits(sum), Least: bits(order[0]), Most: bits(order[len(l)-1]), Mean: bits(meanOf(sum, len(l)))}
}

// exactOf tells by the chapter's words what Exact does.
func exactOf(l []float64) (float64, api.Errno) {
	sum := new(big.Int)
	for _, x := range l {
		if !finite(x) || times(x).CmpAbs(times(1<<53)) > 0 || x != 0 && times(x).TrailingZeroBits() < -leastPlace {
			return 0, api.ErrArg
		}
		sum.Add(sum, times(x))
	}
	if len(l) > 512 {
		return 0, api.ErrLong
	}
	return nearest(sum, big.NewInt(1), sum.Sign() < 0), api.OK
}

// matches asks all calls of a list, and of rows with it, and that neither is changed.
func matches(t *testing.T, l []float64) {
	t.Helper()
	kept := slices.Clone(l)
	want := tallyOf(l)
	if x := agg.Of(l); x != want {
		t.Errorf("Of(%v): %x, not %x", l, x, want)
	}
	rows := rowsOf(l)
	if x, n := agg.Rows(rows); x != want || n != 0 {
		t.Errorf("Rows(%v): %x %d, not %x", rows, x, n, want)
	}
	if !slices.Equal(rows, rowsOf(kept)) {
		t.Errorf("Rows has changed %v to %v", rowsOf(kept), rows)
	}
	x, e := agg.Middle(l)
	if len(l) == 0 {
		if math.Float64bits(x) != 0 || e != 7 {
			t.Errorf("Middle of none: %v %d", x, e)
		}
	} else if want := inOrder(l)[(len(l)-1)/2]; math.Float64bits(x) != bits(want) || e != api.OK {
		t.Errorf("Middle(%v): %x %d, not %x", l, math.Float64bits(x), e, bits(want))
	}
	wantSum, wantE := exactOf(l)
	if x, e := agg.Exact(l); math.Float64bits(x) != math.Float64bits(wantSum) || e != wantE {
		t.Errorf("Exact(%v): %v %d, not %v %d", l, x, e, wantSum, wantE)
	}
	if !sameBits(l, kept) {
		t.Errorf("%v has become %v", kept, l)
	}
}

func sameBits(a, b []float64) bool {
	return slices.EqualFunc(a, b, func(x, y float64) bool { return math.Float64bits(x) == math.Float64bits(y) })
}

// rowsOf are rows whose values are these numbers.
func rowsOf(l []float64) []api.Row {
	var rows []api.Row
	for i, x := range l {
		rows = append(rows, api.Row{Room: i, Key: fmt.Sprint("k", i), Value: api.Value{Number: true, Bits: bits(x)}})
	}
	return rows
}

// kinds are numbers of every kind: the edges, and some between.
func kinds() []float64 {
	l := []float64{math.NaN()}
	for _, x := range []float64{
		0, 0x1p-1074, 0x3p-1074, 0x1.ffffffffffffep-1023, 0x1p-1022, 0x1.0000000000001p-1022, 0x1p-53, 0.1, 0.5, 1, 0x1.0000000000001p0,
		2, 3, 1 << 52, 1<<53 - 1, 1 << 53, 1<<53 + 2, 0x1p970, 0x1p971, 0x1p1023, math.MaxFloat64, math.Inf(1),
	} {
		l = append(l, x, -x)
	}
	return append(l, math.Copysign(0, -1))
}

// picks tells numbers below a bound, the same ones for each seed.
func picks(seed uint64) func(below int) int {
	return func(below int) int {
		seed = seed*6364136223846793005 + 1442695040888963407
		return int(seed >> 33 % uint64(below))
	}
}

func TestAllShortListsAsTheModel(t *testing.T) {
	l := kinds()
	matches(t, nil)
	for _, a := range l {
		matches(t, []float64{a})
		for _, b := range l {
			matches(t, []float64{a, b})
			for _, c := range l[1:] {
				matches(t, []float64{a, b, c})
			}
		}
	}
}

func TestLongListsAsTheModel(t *testing.T) {
	pick := picks(15)
	all := kinds()
	for range 600 {
		n := pick(80)
		var l []float64
		for range n {
			l = append(l, all[1+pick(len(all)-1)]) // with the NaN the sum would tell nothing
		}
		matches(t, l)
		l = l[:0]
		for range n {
			l = append(l, math.Ldexp(float64(pick(1<<30)-1<<29), pick(40)-20)) // such as round on and on
		}
		matches(t, l)
	}
}

func TestLongSumsOfWholeNumbersAsTheModel(t *testing.T) {
	pick := picks(16)
	for range 400 {
		var l []float64
		for range pick(514) {
			x := float64(int64(1)<<53 - int64(pick(5)))
			l = append(l, []float64{x, -x, x, float64(pick(3) - 1)}[pick(4)])
		}
		if x, e := agg.Exact(l); e != api.OK && len(l) <= 512 {
			t.Fatalf("Exact(%v): %v %d", l, x, e)
		}
		matches(t, l)
	}
}

// An adder is told numbers and asked midway, others beside it: each tally is that of all that it was told (P15.3).
func TestAddersAsTheModel(t *testing.T) {
	pick := picks(17)
	all := kinds()
	for range 60 {
		adders := []*agg.Adder{agg.New(), agg.New(), agg.New()}
		told := make([][]float64, 3)
		for range 60 {
			i := pick(3)
			if pick(3) > 0 {
				x := all[min(pick(len(all)*4), len(all)-1)]
				if pick(30) > 0 && !finite(x) {
					x = 1
				}
				if e := adders[i].Add(x); e != api.OK {
					t.Fatal(e)
				}
				told[i] = append(told[i], x)
			}
			if x := adders[i].Tally(); x != tallyOf(told[i]) {
				t.Fatalf("behind %v: %x, not %x", told[i], x, tallyOf(told[i]))
			}
		}
	}
}
