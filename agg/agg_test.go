package agg_test

import (
	"fmt"
	"math"
	"slices"
	"strings"
	"testing"

	"cloisonne/agg"
	"cloisonne/api"
)

const theNaN = 0x7FF8000000000001

var (
	minusNil = math.Copysign(0, -1)
	inf      = math.Inf(1)
	nan      = math.NaN()
)

const (
	most  = math.MaxFloat64
	least = math.SmallestNonzeroFloat64
	top   = 1 << 53
)

// nans are the NaN's bits, and others of a NaN.
func nans() []float64 {
	var l []float64
	for _, b := range []uint64{theNaN, 0x7FF8000000000000, 0xFFF8000000000000, 0xFFF8000000000001, 0x7FF0000000000001, 0xFFF0000000000001, 0x7FFFFFFFFFFFFFFF, 0xFFFFFFFFFFFFFFFF} {
		l = append(l, math.Float64frombits(b))
	}
	return l
}

// comes asks for the tally of numbers, all at once, one by one, and in two parts, each cut.
func comes(t *testing.T, l []float64, sum, least, most, mean float64) {
	t.Helper()
	want := api.Tally{Count: len(l), Sum: bits(sum), Least: bits(least), Most: bits(most), Mean: bits(mean)}
	if x := agg.Of(l); x != want {
		t.Errorf("Of(%v): %x, not %x", l, x, want)
	}
	for cut := range len(l) + 1 {
		a := agg.New()
		for _, x := range l[:cut] {
			a.Add(x)
		}
		if x := a.Tally(); x != agg.Of(l[:cut]) {
			t.Errorf("added %v: %x", l[:cut], x)
		}
		for _, x := range l[cut:] {
			a.Add(x)
		}
		if x := a.Tally(); x != want {
			t.Errorf("added %v, then %v: %x, not %x", l[:cut], l[cut:], x, want)
		}
	}
}

// P15.1: sums

func TestOfNone(t *testing.T) {
	for _, l := range [][]float64{nil, {}, make([]float64, 0, 9)} {
		if x := agg.Of(l); x != (api.Tally{}) {
			t.Errorf("%v", x)
		}
	}
}

func TestOfOneAndOfSome(t *testing.T) {
	comes(t, []float64{2.5}, 2.5, 2.5, 2.5, 2.5)
	comes(t, []float64{-2.5}, -2.5, -2.5, -2.5, -2.5)
	comes(t, []float64{3, -1, 4}, 6, -1, 4, 2)
	comes(t, []float64{-1, 4, 3}, 6, -1, 4, 2)
	comes(t, []float64{7, 7, 7, 7}, 28, 7, 7, 7)
	comes(t, []float64{0.5, 0.25, -8, 100}, 92.75, -8, 100, 23.1875)
}

func TestTheSumRoundsAtEachStep(t *testing.T) {
	comes(t, []float64{top, 1, 1}, top, 1, top, top/3.0) // each time to the even one
	comes(t, []float64{1, 1, top}, top+2, 1, top, (top+2)/3.0)
	comes(t, []float64{top, 3}, top+4, 3, top, top/2+2)
	comes(t, []float64{top, 2, 1}, top+4, 1, top, (top+4)/3.0)
	comes(t, []float64{-top, -1, -1}, -top, -top, -1, -top/3.0)
	comes(t, []float64{top, 1, -1}, top-1, -1, top, (top-1)/3.0)
	comes(t, []float64{top, -1, 1}, top, -1, top, top/3.0)
	comes(t, []float64{1, 0x1p-53, 0x1p-53}, 1, 0x1p-53, 1, 1/3.0)
	comes(t, []float64{0x1p-53, 0x1p-53, 1}, 0x1.0000000000001p0, 0x1p-53, 1, 0x1.5555555555557p-2)
	tenths := slices.Repeat([]float64{0.1}, 10)
	comes(t, tenths, 0.9999999999999999, 0.1, 0.1, 0.09999999999999999)
}

func TestTheSumGrowsTooGreatMidway(t *testing.T) {
	comes(t, []float64{most, most, -most}, inf, -most, most, inf)
	comes(t, []float64{most, -most, most}, most, -most, most, most/3)
	comes(t, []float64{-most, most, most}, most, -most, most, most/3)
	comes(t, []float64{-most, -most, most, most}, -inf, -most, most, -inf)
	comes(t, []float64{most, 0x1p969, 0x1p969}, most, 0x1p969, most, most/3) // less than half of what the next one would be above
	comes(t, []float64{most, 0x1p970}, inf, 0x1p970, most, inf)              // half of it: to the even one, which isn't there
	comes(t, []float64{most, inf, -most}, inf, -most, inf, inf)
}

func TestNumbersCancel(t *testing.T) {
	comes(t, []float64{1e300, -1e300, 1}, 1, -1e300, 1e300, 1/3.0)
	comes(t, []float64{1, 1e300, -1e300}, 0, -1e300, 1e300, 0)
	comes(t, []float64{-5, 5}, 0, -5, 5, 0)
	comes(t, []float64{5, -5}, 0, -5, 5, 0)
	comes(t, []float64{least, -least, -least}, -least, -least, least, minusNil)
}

func TestNoughtsOfBothSigns(t *testing.T) {
	comes(t, []float64{0}, 0, 0, 0, 0)
	comes(t, []float64{minusNil}, 0, minusNil, minusNil, 0) // from nought on
	comes(t, []float64{minusNil, minusNil, minusNil}, 0, minusNil, minusNil, 0)
	comes(t, []float64{0, minusNil}, 0, minusNil, 0, 0)
	comes(t, []float64{minusNil, 0}, 0, minusNil, 0, 0)
	comes(t, []float64{minusNil, -1}, -1, -1, minusNil, -0.5)
	comes(t, []float64{1, minusNil, 0}, 1, minusNil, 1, 1/3.0)
}

func TestInfinities(t *testing.T) {
	comes(t, []float64{inf}, inf, inf, inf, inf)
	comes(t, []float64{-inf}, -inf, -inf, -inf, -inf)
	comes(t, []float64{1, inf, -1e308}, inf, -1e308, inf, inf)
	comes(t, []float64{-inf, 1, -inf}, -inf, -inf, 1, -inf)
	comes(t, []float64{inf, -inf}, nan, -inf, inf, nan)
	comes(t, []float64{-inf, 3, inf}, nan, -inf, inf, nan)
	comes(t, []float64{most, most, -inf}, nan, -inf, most, nan) // too great already
}

func TestTheNaNWhereverItStands(t *testing.T) {
	for _, x := range nans() {
		comes(t, []float64{x}, nan, nan, nan, nan)
		comes(t, []float64{x, 1, 2}, nan, 1, nan, nan)
		comes(t, []float64{1, x, 2}, nan, 1, nan, nan)
		comes(t, []float64{1, 2, x}, nan, 1, nan, nan)
		comes(t, []float64{inf, x, -inf}, nan, -inf, nan, nan)
		comes(t, []float64{x, minusNil, x}, nan, minusNil, nan, nan)
	}
	comes(t, nans(), nan, nan, nan, nan)
}

func TestLeastAndMostInTheOrderOfNumbers(t *testing.T) {
	order := []float64{-inf, -most, -1, -least, minusNil, 0, least, 1, most, inf, nan}
	for i, a := range order {
		for j, b := range order {
			x := agg.Of([]float64{a, b})
			if x.Least != bits(order[min(i, j)]) || x.Most != bits(order[max(i, j)]) {
				t.Errorf("%v %v: %x", a, b, x)
			}
		}
	}
}

func TestTheMeanRounds(t *testing.T) {
	comes(t, []float64{0, 0, 1}, 1, 0, 1, 0x1.5555555555555p-2)
	comes(t, []float64{2, 0, 0}, 2, 0, 2, 0x1.5555555555555p-1)
	comes(t, []float64{0, least}, least, 0, least, 0) // ties to even
	comes(t, []float64{-least, 0}, -least, -least, 0, minusNil)
	comes(t, []float64{3 * least, 0}, 3*least, 0, 3*least, 2*least)
	comes(t, []float64{5 * least, 0, 0}, 5*least, 0, 5*least, 2*least)
	comes(t, []float64{top - 1, 0, 0, 0, 0, 0, 0}, top-1, 0, top-1, 1286742750677284.5)
	comes(t, []float64{0x1.0000000000001p-1022, 0}, 0x1.0000000000001p-1022, 0, 0x1.0000000000001p-1022, 0x1p-1023)
}

// P15.1: adders

func TestAnAdderIsAskedAheadBetweenAndBehind(t *testing.T) {
	a := agg.New()
	asked := func(want api.Tally) {
		t.Helper()
		for range 2 {
			if x := a.Tally(); x != want {
				t.Errorf("%x, not %x", x, want)
			}
		}
	}
	asked(api.Tally{})
	a.Add(4)
	asked(agg.Of([]float64{4}))
	a.Add(-1)
	asked(agg.Of([]float64{4, -1}))
	for range 10000 {
		if e := a.Add(0.5); e != api.OK {
			t.Fatal(e)
		}
	}
	asked(api.Tally{Count: 10002, Sum: bits(5003), Least: bits(-1), Most: bits(4), Mean: bits(5003 / 10002.0)})
	a.Add(nan)
	asked(api.Tally{Count: 10003, Sum: theNaN, Least: bits(-1), Most: theNaN, Mean: theNaN})
}

func TestTwoAddersSideBySide(t *testing.T) {
	a, b := agg.New(), agg.New()
	a.Add(1)
	if x := b.Tally(); x != (api.Tally{}) {
		t.Errorf("b has %v", x)
	}
	b.Add(10)
	a.Add(2)
	b.Add(inf)
	if x := a.Tally(); x != agg.Of([]float64{1, 2}) {
		t.Errorf("a has %x", x)
	}
	if x := b.Tally(); x != agg.Of([]float64{10, inf}) {
		t.Errorf("b has %x", x)
	}
}

func TestATallyStaysAsItWasTold(t *testing.T) {
	a := agg.New()
	a.Add(1)
	x := a.Tally()
	a.Add(2)
	if x != agg.Of([]float64{1}) {
		t.Errorf("%x", x)
	}
}

func TestANilAdder(t *testing.T) {
	var a *agg.Adder
	for _, x := range kinds() {
		if e := a.Add(x); e != 2 {
			t.Errorf("Add(%v): %d", x, e)
		}
	}
	if x := a.Tally(); x != (api.Tally{}) {
		t.Errorf("%x", x)
	}
}

// P15.1: rows

func number(x float64) api.Value { return api.Value{Number: true, Bits: bits(x)} }

// ofRows asks for the tally of rows with these values, and how many aren't numbers.
func ofRows(t *testing.T, values []api.Value, want []float64) {
	t.Helper()
	var rows []api.Row
	for i, v := range values {
		rows = append(rows, api.Row{Room: 3 - i, Key: strings.Repeat("k", i%3), Value: v})
	}
	kept := slices.Clone(rows)
	x, others := agg.Rows(rows)
	if x != agg.Of(want) || others != len(values)-len(want) {
		t.Errorf("%v: %x, %d others", values, x, others)
	}
	if !slices.Equal(rows, kept) {
		t.Errorf("%v has become %v", kept, rows)
	}
}

func TestRowsOfNumbersAndOfOthers(t *testing.T) {
	a, b := api.Value{Text: "a"}, api.Value{}
	ofRows(t, nil, nil)
	ofRows(t, []api.Value{number(3)}, []float64{3})
	ofRows(t, []api.Value{a}, nil)
	ofRows(t, []api.Value{b}, nil) // no bytes are bytes too
	ofRows(t, []api.Value{a, b, a}, nil)
	ofRows(t, []api.Value{number(1), number(-2), number(1)}, []float64{1, -2, 1})
	ofRows(t, []api.Value{a, number(top), number(1), b, number(1)}, []float64{top, 1, 1})
	ofRows(t, []api.Value{number(1), a, number(1), number(top), a}, []float64{1, 1, top})
	ofRows(t, []api.Value{number(inf), b, number(minusNil)}, []float64{inf, minusNil})
	ofRows(t, []api.Value{number(0), number(nan), a}, []float64{0, nan})
	var all []api.Value
	for _, x := range kinds() {
		all = append(all, number(x), a)
	}
	ofRows(t, all, kinds())
}

func TestRowsWhoseValuesMayNotBeAreOthers(t *testing.T) {
	l := []api.Value{
		{Number: true, Text: "a", Bits: bits(1)},
		{Text: "a", Bits: bits(1)},
		{Bits: bits(1)},
		{Text: strings.Repeat("a", 65)},
	}
	for _, x := range nans()[1:] {
		l = append(l, api.Value{Number: true, Bits: math.Float64bits(x)})
	}
	ofRows(t, l, nil)
	ofRows(t, append(l, number(5)), []float64{5})
}

func TestRowsWhateverTheirPlacesAndKeys(t *testing.T) {
	for _, place := range []int{math.MinInt, -1, 0, 7, 8, math.MaxInt} {
		for _, key := range []string{"", "k", strings.Repeat("k", 32), strings.Repeat("k", 33), "\x00\xff"} {
			x, others := agg.Rows([]api.Row{{Room: place, Key: key, Value: number(2)}, {Room: place, Key: key, Value: number(2)}, {Room: place, Key: key}})
			if x != agg.Of([]float64{2, 2}) || others != 1 {
				t.Errorf("%d %q: %x %d", place, key, x, others)
			}
		}
	}
}

// P15.2, P15.3: Middle

// inAllOrders calls f with each order of l, in memory of its own.
func inAllOrders(l []float64, f func([]float64)) {
	var rest func(done, left []float64)
	rest = func(done, left []float64) {
		if len(left) == 0 {
			f(slices.Clone(done))
		}
		for i, x := range left {
			rest(append(slices.Clone(done), x), slices.Delete(slices.Clone(left), i, i+1))
		}
	}
	rest(nil, l)
}

// middle asks for the middle of numbers, in every order, and that each list stays as it was, its spare room too.
func middle(t *testing.T, want float64, l ...float64) {
	t.Helper()
	inAllOrders(l, func(l []float64) {
		room := append(slices.Clone(l), 77, -77)
		kept := slices.Clone(room)
		x, e := agg.Middle(room[:len(l)])
		if math.Float64bits(x) != bits(want) || e != api.OK {
			t.Errorf("%v: %x %d, not %x", l, math.Float64bits(x), e, bits(want))
		}
		if !sameBits(room, kept) {
			t.Errorf("%v has become %v", kept, room)
		}
	})
}

func TestMiddleOfNone(t *testing.T) {
	for _, l := range [][]float64{nil, {}, make([]float64, 0, 3)} {
		if x, e := agg.Middle(l); math.Float64bits(x) != 0 || e != 7 {
			t.Errorf("%v %d", x, e)
		}
	}
}

func TestMiddleInEveryOrder(t *testing.T) {
	middle(t, 5, 5)
	middle(t, -5, -5)
	middle(t, 1, 1, 2)
	middle(t, 2, 1, 2, 3)
	middle(t, 2, 1, 2, 3, 4)
	middle(t, 3, 1, 2, 3, 4, 5)
	middle(t, 3, 1, 2, 3, 4, 5, 6)
	middle(t, 4, 4, 4, 4, 9)
	middle(t, 4, 1, 4, 4, 4)
	middle(t, 1, 1, 1, 4, 4)
	middle(t, -3, -4, -3, 2)
}

func TestMiddleOfNoughtsInfinitiesAndTheNaN(t *testing.T) {
	middle(t, minusNil, minusNil)
	middle(t, minusNil, minusNil, 0)
	middle(t, minusNil, minusNil, minusNil, 0)
	middle(t, 0, minusNil, 0, 0)
	middle(t, minusNil, minusNil, minusNil, 0, 0)
	middle(t, minusNil, -1, minusNil, 0)
	middle(t, -inf, -inf, inf)
	middle(t, 0, -inf, 0, inf)
	middle(t, inf, 1, inf, inf)
	middle(t, inf, inf, nan)
	middle(t, inf, -inf, inf, nan)
	middle(t, 3, 1, 3, 5, nan) // the NaN stands last
	middle(t, 5, 1, 5, nan)
	middle(t, nan, nan)
	middle(t, nan, 1, nan, nan)
}

func TestMiddleOfANaNsOtherBits(t *testing.T) {
	for _, x := range nans() {
		middle(t, nan, x)
		middle(t, inf, x, inf)
		middle(t, nan, x, 1, nan)
		middle(t, nan, x, -x, x)
	}
	middle(t, nan, nans()[:6]...)
}

func TestMiddleOfMany(t *testing.T) {
	for n := 1; n <= 600; n++ {
		var l []float64
		for i := range n {
			l = append(l, float64((i*7919+3)%n)) // 7919 is prime: each number up to n, once
		}
		if x, e := agg.Middle(l); x != float64((n-1)/2) || e != api.OK {
			t.Errorf("of %d: %v %d", n, x, e)
		}
	}
}

// P15.2: Exact

// exact asks for the sum of whole numbers, and that they stay as they were.
func exact(t *testing.T, want float64, l ...float64) {
	t.Helper()
	kept := slices.Clone(l)
	if x, e := agg.Exact(l); math.Float64bits(x) != math.Float64bits(want) || e != api.OK {
		t.Errorf("%d numbers, %v at first: %v %d, not %v", len(l), l[:min(len(l), 4)], x, e, want)
	}
	if !sameBits(l, kept) {
		t.Errorf("%v has become %v", kept, l)
	}
}

// refused asks that Exact tells an error, and no sum.
func refused(t *testing.T, want api.Errno, l ...float64) {
	t.Helper()
	if x, e := agg.Exact(l); math.Float64bits(x) != 0 || e != want {
		t.Errorf("%d numbers: %v %d, not %d", len(l), x, e, want)
	}
}

func TestExactOfFew(t *testing.T) {
	exact(t, 0)
	exact(t, 5, 5)
	exact(t, -5, -5)
	exact(t, 0, 5, -5)
	exact(t, 0, -5, 5)
	exact(t, 3, 10, -8, 1)
	exact(t, 0, 0)
	exact(t, 0, minusNil)
	exact(t, 0, minusNil, minusNil)
	exact(t, -1, minusNil, -1)
}

func TestExactOfAsManyAsMayBe(t *testing.T) {
	ones := slices.Repeat([]float64{1}, 512)
	exact(t, 512, ones...)
	exact(t, 511, ones[1:]...)
	refused(t, 5, append(ones, 1)...)
	refused(t, 5, make([]float64, 513)...)
	refused(t, 5, make([]float64, 5000)...)
	tops := slices.Repeat([]float64{top}, 512)
	exact(t, 0x1p62, tops...)
	refused(t, 5, append(tops, -top)...)
	refused(t, 5, slices.Repeat(tops, 4)...)
	downs := slices.Repeat([]float64{-top}, 512)
	exact(t, -0x1p62, downs...)
	refused(t, 5, append(downs, top)...)
}

func TestExactOfWhatItDoesntAdd(t *testing.T) {
	wrong := append(nans(), 0.5, -0.5, least, -least, 1.0000000000000002, 1<<52-0.5, inf, -inf, top+2, -top-2, 1<<54, -1<<54, 1<<62, -1<<62, 1<<63, -1<<63, 1<<64, -1<<64, most, -most)
	for _, x := range wrong {
		many := make([]float64, 512)
		refused(t, 1, x)
		refused(t, 1, x, 1)
		refused(t, 1, 1, x)
		refused(t, 1, append([]float64{x}, many...)...) // ahead of ErrLong
		refused(t, 1, append(many, x)...)
		refused(t, 1, append(slices.Clone(many), 1, 1, x)...)
		refused(t, 1, append(many[:511], x)...)
	}
	for _, x := range []float64{top, -top, top - 1, 1 - top, 1, -1} {
		exact(t, x, x)
		exact(t, 0, x, -x)
	}
}

func TestExactRoundsJustOnce(t *testing.T) {
	exact(t, top, top, 1) // a tie, to the even one
	exact(t, top+2, top, 1, 1)
	exact(t, top+4, top, 1, 1, 1) // a tie between top+2 and top+4
	exact(t, top+4, top, 3)
	exact(t, top+4, top, 1, 1, 1, 1)
	exact(t, -top, -top, -1)
	exact(t, -top-2, -top, -1, -1)
	exact(t, -top-4, -top, -1, -1, -1)
	exact(t, 1<<54, top, top-1, 1)
	exact(t, 1<<54, top, top-1, 2, 1) // 2^54 + 2: a tie, one by one too
	exact(t, 1<<54+4, top, top, 1, 1, 1)
	exact(t, 1<<54, top, top, 1, 1)
	exact(t, 1<<54+8, top, top, 3, 3)
	exact(t, 1<<55, top, top, top, top, 3)
	exact(t, 1<<55+8, top, top, top, top, 3, 2)
	exact(t, -1<<55-8, -top, -top, -top, -top, -3, -2)
	many := slices.Repeat([]float64{top}, 510) // numbers are 512 from one another there: at the half to the even one
	exact(t, 511<<53, append(many, top, 256)...)
	exact(t, 511<<53+512, append(many, top, 257)...)
	exact(t, 511<<53+512, append(many, top, 767)...)
	exact(t, 511<<53+1024, append(many, top, 768)...)
}

func TestExactGoesBeyondAndComesBack(t *testing.T) {
	exact(t, top, top, 1, -1)
	exact(t, 1, top, 1, -top)
	exact(t, -1, -top, -1, top)
	exact(t, 3, top, top, 1, 1, 1, -top, -top)
	exact(t, 1, slices.Concat(slices.Repeat([]float64{top}, 255), []float64{1}, slices.Repeat([]float64{-top}, 255))...)
	if x := agg.Of([]float64{top, 1, -1}); x.Sum != bits(top-1) { // each by itself rounds otherwise
		t.Errorf("%x", x)
	}
}

// P15.3

func TestExactIsTheSumWhereNoneOnTheWayIsTooGreat(t *testing.T) {
	pick := picks(153)
	for range 3000 {
		var l []float64
		sum := 0.0
		for range pick(40) {
			room := int64(top - math.Abs(sum)) // what may still be added, or taken
			x := float64(int64(pick(1<<30))<<23%(room+1)) * float64(2*pick(2)-1)
			if pick(4) == 0 {
				x = math.Copysign(float64(room), sum) // right up to the bound
			}
			sum += x
			l = append(l, x)
		}
		if x, e := agg.Exact(l); e != api.OK || agg.Of(l).Sum != math.Float64bits(x) {
			t.Fatalf("%v: %v %d, not %v", l, x, e, sum)
		}
	}
}

func TestPartsAddedOneBehindTheOtherAreTheTallyOfAll(t *testing.T) {
	all := slices.DeleteFunc(kinds(), math.IsNaN)
	for cut := range len(all) + 1 {
		a := agg.New()
		for _, part := range [][]float64{all[:cut], nil, all[cut:]} {
			for _, x := range part {
				a.Add(x)
			}
		}
		if x := a.Tally(); x != agg.Of(all) {
			t.Errorf("cut at %d: %x", cut, x)
		}
	}
}

// The chapter's example.

func ExampleOf() {
	x := agg.Of([]float64{1, math.NaN()})
	fmt.Println(x.Count, math.Float64frombits(x.Sum), math.Float64frombits(x.Most), math.Float64frombits(x.Least))
	// Output: 2 NaN NaN 1
}

func ExampleExact() {
	fmt.Println(agg.Exact([]float64{1 << 53, 1, 1}))
	fmt.Println(agg.Exact([]float64{0.5}))
	// Output:
	// 9.007199254740994e+15 0
	// 0 1
}
