package expr_test

import (
	"fmt"
	"math"
	"slices"
	"strconv"
	"strings"
	"testing"

	"cloisonne/api"
	"cloisonne/expr"
	"cloisonne/num"
)

// op tells the Op of a word; CodeNum, if it is none's.
func op(word string) int {
	words := strings.Fields("x num + - * / min max neg abs floor dup swap drop check pick")
	if i := slices.Index(words, word); i >= 0 {
		return i + 1
	}
	return api.CodeNum
}

// prog reads a program: words of steps, and numbers.
func prog(t *testing.T, s string) []api.Code {
	t.Helper()
	var p []api.Code
	for word := range strings.FieldsSeq(s) {
		c := api.Code{Op: op(word)}
		if c.Op == api.CodeNum {
			x, e := strconv.ParseFloat(word, 64)
			if e != nil {
				t.Fatal(e)
			}
			c.Bits = bits(x)
		}
		p = append(p, c)
	}
	return p
}

// times is a program of as many of one step.
func times(n, op int) []api.Code {
	return slices.Repeat([]api.Code{{Op: op}}, n)
}

// kinds are numbers of every kind: the edges, and some between.
func kinds() []float64 {
	l := []float64{math.NaN()}
	for _, x := range []float64{
		0, 0x1p-1074, 0x3p-1074, 0x1.ffffffffffffep-1023, 0x1p-1022, 0x1.0000000000001p-1022, 0x1p-600,
		0x1p-53, 0x1.001p-53, 0.1, 0.3, 0.5, 0x1.fffffffffffffp-2, 0x1.fffffffffffffp-1, 1, 0x1.0000000000001p0, 1.5, 2, 2.5, 3, 10,
		0x1.00000001p0, 0x1.00000801p0, 0x1p51 + 0.5, 0x1p52 - 0.5, 0x1p52, 0x1p52 + 1, 0x1p53, 0x1p53 + 2, 1e300, 0x1p1023, math.MaxFloat64, math.Inf(1),
	} {
		l = append(l, x, -x)
	}
	return append(l, math.Copysign(0, -1))
}

// nans are bits of the NaN that num.Bits doesn't tell.
func nans() []uint64 {
	return []uint64{0x7FF8000000000000, 0xFFF8000000000000, 0xFFF8000000000001, 0x7FF0000000000001, 0xFFF0000000000001, 0x7FFFFFFFFFFFFFFF, 0xFFFFFFFFFFFFFFFF, 0x7FF8000000000003}
}

// endsWith asks that a program ends with a number, by its bits.
func endsWith(t *testing.T, s string, x float64, want uint64) {
	t.Helper()
	p := prog(t, s)
	y, e := expr.Run(p, x)
	if math.Float64bits(y) != want || e != api.OK {
		t.Errorf("%s of %x: %x %d, not %x", s, bits(x), math.Float64bits(y), e, want)
	}
	if l, n := expr.Trace(p, x); !slices.Equal(l, []uint64{want}) || n != len(p) {
		t.Errorf("%s of %x: trace %x %d, not %x", s, bits(x), l, n, want)
	}
}

// isOdd asks that a program goes wrong behind as many steps, with such numbers on the stack.
func isOdd(t *testing.T, p []api.Code, x float64, wantDone int, want ...float64) {
	t.Helper()
	if y, e := expr.Run(p, x); math.Float64bits(y) != 0 || e != 20 {
		t.Errorf("%v of %x: %v %d, not ErrOdd", p, bits(x), y, e)
	}
	var wantBits []uint64
	for _, y := range want {
		wantBits = append(wantBits, bits(y))
	}
	if l, n := expr.Trace(p, x); !slices.Equal(l, wantBits) || n != wantDone {
		t.Errorf("%v of %x: trace %x %d, not %x %d", p, bits(x), l, n, wantBits, wantDone)
	}
}

// isNone asks that something is no program, to all calls.
func isNone(t *testing.T, p []api.Code) {
	t.Helper()
	if expr.Right(p) {
		t.Errorf("Right(%v): true", p)
	}
	if y, e := expr.Run(p, 1); math.Float64bits(y) != 0 || e != 1 {
		t.Errorf("Run(%v): %v %d, not ErrArg", p, y, e)
	}
	if l, n := expr.Trace(p, 1); len(l) != 0 || n != 0 {
		t.Errorf("Trace(%v): %x %d", p, l, n)
	}
	if n, ok := expr.Depth(p); n != 0 || ok {
		t.Errorf("Depth(%v): %d %v", p, n, ok)
	}
}

// P14.1: Right

func TestRightByTheNumberOfSteps(t *testing.T) {
	isNone(t, nil)
	isNone(t, []api.Code{})
	for n := 1; n <= 32; n++ {
		if !expr.Right(times(n, api.CodeNeg)) {
			t.Error(n, "steps are no program")
		}
	}
	isNone(t, times(33, api.CodeNeg))
	isNone(t, times(1000, api.CodeX))
}

func TestRightByOp(t *testing.T) {
	for op := 1; op <= 16; op++ {
		if !expr.Right(times(1, op)) || !expr.Right(append(times(31, api.CodeX), api.Code{Op: op})) {
			t.Error("no step:", op)
		}
	}
	for _, op := range []int{0, 17, 18, -1, -2, -16, 255, 257, 1<<32 + 1, math.MinInt, math.MaxInt} {
		isNone(t, []api.Code{{Op: op}})
		isNone(t, []api.Code{{Op: op}, {Op: api.CodeX}})
		isNone(t, append(times(31, api.CodeX), api.Code{Op: op}))
		isNone(t, []api.Code{{Op: op, Bits: 1}})
	}
}

func TestRightByBits(t *testing.T) {
	for _, x := range kinds() {
		if !expr.Right([]api.Code{{Op: api.CodeNum, Bits: bits(x)}}) {
			t.Errorf("no number: %x", bits(x))
		}
		if num.Bits(x) != bits(x) {
			t.Errorf("num.Bits tells %x, not %x", num.Bits(x), bits(x))
		}
	}
	for _, b := range nans() {
		isNone(t, []api.Code{{Op: api.CodeNum, Bits: b}})
		isNone(t, []api.Code{{Op: api.CodeX}, {Op: api.CodeDrop}, {Op: api.CodeNum, Bits: b}})
	}
	for op := 1; op <= 16; op++ {
		if op == api.CodeNum {
			continue
		}
		for _, b := range []uint64{1, 1 << 63, bits(1), theNaN, math.MaxUint64} {
			isNone(t, []api.Code{{Op: op, Bits: b}})
			isNone(t, []api.Code{{Op: api.CodeX}, {Op: op, Bits: b}})
		}
	}
}

// P14.1: what each step makes

// ownTwo is a step behind two numbers of the program's own.
func ownTwo(op int, a, b float64) []api.Code {
	return []api.Code{step(api.CodeNum, a), step(api.CodeNum, b), {Op: op}}
}

func TestEachStepOnTwoNumbers(t *testing.T) {
	for op := api.CodeAdd; op <= api.CodeCheck; op++ {
		for _, a := range kinds() {
			for _, b := range kinds() {
				hold(t, ownTwo(op, a, b), 7)
				hold(t, []api.Code{{Op: api.CodeX}, step(api.CodeNum, b), {Op: op}}, a)
				hold(t, []api.Code{step(api.CodeNum, a), {Op: api.CodeX}, {Op: op}}, b)
			}
		}
	}
}

func TestEachStepOnOneNumber(t *testing.T) {
	for op := api.CodeX; op <= api.CodePick; op++ {
		for _, x := range kinds() {
			hold(t, []api.Code{step(op, x)}, x)
			hold(t, []api.Code{{Op: api.CodeX}, step(op, x)}, x)
			hold(t, []api.Code{step(api.CodeNum, x), step(op, x)}, 1)
		}
	}
}

func TestSumsAndDifferences(t *testing.T) {
	endsWith(t, "x 3 +", 4, bits(7))
	endsWith(t, "x 3 -", 4, bits(1))
	endsWith(t, "3 x -", 4, bits(-1)) // the last is taken from the one ahead
	endsWith(t, "0.1 0.2 +", 0, 0x3FD3333333333334)
	endsWith(t, "9007199254740992 1 +", 0, 0x4340000000000000) // a tie goes to the even one
	endsWith(t, "9007199254740994 1 +", 0, 0x4340000000000002)
	endsWith(t, "1 0x1.001p-53 +", 0, 0x3FF0000000000001) // rounded wider first it would be a tie
	endsWith(t, "1.7976931348623157e308 x +", 1e308, 0x7FF0000000000000)
	endsWith(t, "1.7976931348623157e308 x +", 1e291, 0x7FEFFFFFFFFFFFFF)
	endsWith(t, "-1e308 x -", 1e308, 0xFFF0000000000000)
	endsWith(t, "1e308 x + 1e308 -", 1e308, 0x7FF0000000000000) // what was too great stays so
	endsWith(t, "inf x -", math.Inf(1), theNaN)
	endsWith(t, "inf x +", math.Inf(-1), theNaN)
	endsWith(t, "inf x -", math.Inf(-1), 0x7FF0000000000000)
	endsWith(t, "-inf x -", 5, 0xFFF0000000000000)
	endsWith(t, "x x -", 2.5, 0)
	endsWith(t, "x x -", -2.5, 0)
	endsWith(t, "-0 x +", 0, 0)
	endsWith(t, "-0 x +", math.Copysign(0, -1), 1<<63)
	endsWith(t, "-0 x -", 0, 1<<63)
	endsWith(t, "0 x -", 0, 0)
	endsWith(t, "x 0x1p-1074 -", 0x1p-1022, 0x000FFFFFFFFFFFFF)
	endsWith(t, "nan x +", 1, theNaN)
	endsWith(t, "1 x -", math.NaN(), theNaN)
}

func TestProductsAndQuotients(t *testing.T) {
	endsWith(t, "x 2 /", 3, bits(1.5))
	endsWith(t, "2 x /", 4, bits(0.5))
	endsWith(t, "x -3 *", 5, bits(-15))
	endsWith(t, "0x1.00000001p0 x *", 0x1.00000801p0, 0x3FF0000080200001) // rounded wider first it would be a tie
	endsWith(t, "x dup * 0x1.0000004p0 -", 0x1.0000002p0, 0)              // the product is rounded ahead of the difference
	endsWith(t, "x dup * 1 - 0x1p-26 -", 0x1.0000002p0, 0)
	endsWith(t, "1 3 /", 0, 0x3FD5555555555555)
	endsWith(t, "2 3 /", 0, 0x3FE5555555555555)
	endsWith(t, "1 10 /", 0, 0x3FB999999999999A)
	endsWith(t, "x 0 /", 0, theNaN)
	endsWith(t, "x 0 /", 1, 0x7FF0000000000000)
	endsWith(t, "x 0 /", -1, 0xFFF0000000000000)
	endsWith(t, "x -0 /", 1, 0xFFF0000000000000)
	endsWith(t, "-0 x /", 0, theNaN)
	endsWith(t, "inf x /", math.Inf(-1), theNaN)
	endsWith(t, "inf x /", -2, 0xFFF0000000000000)
	endsWith(t, "x -inf /", 2, 1<<63)
	endsWith(t, "inf x *", 0, theNaN)
	endsWith(t, "-0 x *", math.Inf(1), theNaN)
	endsWith(t, "-inf x *", math.Inf(-1), 0x7FF0000000000000)
	endsWith(t, "-0 x *", 3, 1<<63)
	endsWith(t, "-0 x *", -3, 0)
	endsWith(t, "x 10 * 10 /", 1e308, 0x7FF0000000000000)
	endsWith(t, "0x1p-1074 x *", 0.5, 0) // a tie goes to nought
	endsWith(t, "0x1p-1074 x *", -0.5, 1<<63)
	endsWith(t, "0x1p-1074 x *", 0x1.0000000000001p-1, 1)
	endsWith(t, "0x3p-1074 x *", 0.5, 2)
	endsWith(t, "nan x *", 0, theNaN)
	endsWith(t, "x nan /", 0, theNaN)
}

func TestMinAndMaxAreOfTheOrder(t *testing.T) {
	const minusNil = 1 << 63
	endsWith(t, "x 3 min", 2, bits(2))
	endsWith(t, "x 3 min", 4, bits(3))
	endsWith(t, "x 3 max", 2, bits(3))
	endsWith(t, "x 3 max", 4, bits(4))
	endsWith(t, "x -3 min", -4, bits(-4))
	endsWith(t, "x -3 max", -4, bits(-3))
	for _, s := range []string{"0 -0", "-0 0"} {
		endsWith(t, s+" min", 1, minusNil)
		endsWith(t, s+" max", 1, 0)
	}
	for _, s := range []string{"nan inf", "inf nan"} {
		endsWith(t, s+" min", 1, 0x7FF0000000000000)
		endsWith(t, s+" max", 1, theNaN)
	}
	endsWith(t, "nan x min", math.Inf(-1), 0xFFF0000000000000)
	endsWith(t, "nan x min", math.NaN(), theNaN)
	endsWith(t, "x -inf max", math.NaN(), theNaN)
	for _, a := range kinds() {
		for _, b := range kinds() {
			least, most := a, b
			if num.Order(a, b) > 0 {
				least, most = b, a
			}
			if y, e := expr.Run(ownTwo(api.CodeMin, a, b), 0); math.Float64bits(y) != bits(least) || e != api.OK {
				t.Errorf("%v %v min: %v %d", a, b, y, e)
			}
			if y, e := expr.Run(ownTwo(api.CodeMax, a, b), 0); math.Float64bits(y) != bits(most) || e != api.OK {
				t.Errorf("%v %v max: %v %d", a, b, y, e)
			}
		}
	}
}

func TestSigns(t *testing.T) {
	for _, x := range []float64{2.5, -2.5, 0, math.Copysign(0, -1), 0x1p-1074, math.MaxFloat64, -math.MaxFloat64, math.Inf(1), math.Inf(-1)} {
		endsWith(t, "x neg", x, math.Float64bits(x)^1<<63)
		endsWith(t, "x neg neg", x, math.Float64bits(x))
		endsWith(t, "x abs", x, math.Float64bits(x)&^(1<<63))
		endsWith(t, "x neg abs", x, math.Float64bits(x)&^(1<<63))
	}
	endsWith(t, "x neg", math.NaN(), theNaN)
	endsWith(t, "x abs", math.NaN(), theNaN)
	endsWith(t, "nan neg abs neg", 1, theNaN)
	endsWith(t, "0 0 / neg", 1, theNaN)
}

func TestFloor(t *testing.T) {
	for _, x := range []struct{ x, want float64 }{
		{2.5, 2}, {2, 2}, {0x1.fffffffffffffp0, 1}, {0.5, 0}, {0x1p-1074, 0}, {0x1.fffffffffffffp-1, 0}, {0, 0},
		{math.Copysign(0, -1), math.Copysign(0, -1)},
		{-0x1p-1074, -1}, {-0.5, -1}, {-0x1.fffffffffffffp-1, -1}, {-1, -1}, {-0x1.0000000000001p0, -2}, {-2.5, -3},
		{0x1p51 + 0.5, 0x1p51}, {-0x1p51 - 0.5, -0x1p51 - 1}, {0x1p52 - 0.5, 0x1p52 - 1}, {-0x1p52 + 0.5, -0x1p52},
		{0x1p52 + 1, 0x1p52 + 1}, {-0x1p52 - 1, -0x1p52 - 1}, {0x1p53, 0x1p53}, {1e300, 1e300}, {-1e300, -1e300}, {0x1p63, 0x1p63}, {-0x1p64, -0x1p64},
		{math.MaxFloat64, math.MaxFloat64}, {-math.MaxFloat64, -math.MaxFloat64}, {math.Inf(1), math.Inf(1)}, {math.Inf(-1), math.Inf(-1)}, {math.NaN(), math.NaN()},
	} {
		endsWith(t, "x floor", x.x, bits(x.want))
	}
}

func TestStepsOnTheStack(t *testing.T) {
	for _, x := range []struct {
		s    string
		want []float64
	}{
		{"x", []float64{5}},
		{"7", []float64{7}},
		{"-0", []float64{math.Copysign(0, -1)}},
		{"x 7", []float64{5, 7}},
		{"x dup", []float64{5, 5}},
		{"1 x dup", []float64{1, 5, 5}},
		{"nan dup", []float64{math.NaN(), math.NaN()}},
		{"1 2 swap", []float64{2, 1}},
		{"3 1 2 swap", []float64{3, 2, 1}},
		{"3 1 2 drop", []float64{3, 1}},
		{"1 drop", nil},
		{"1 2 check", []float64{1, 2}},
		{"nan 2 check", []float64{math.NaN(), 2}}, // the last one alone is asked
		{"9 1 2 3 pick", []float64{9, 1}},
		{"9 1 2 0 pick", []float64{9, 2}},
		{"9 8 +", []float64{17}},
		{"1 9 8 -", []float64{1, 1}},
		{"1 9 neg", []float64{1, -9}},
	} {
		p := prog(t, x.s)
		var want []uint64
		for _, y := range x.want {
			want = append(want, bits(y))
		}
		if l, n := expr.Trace(p, 5); !slices.Equal(l, want) || n != len(p) {
			t.Errorf("%s: %x %d, not %x", x.s, l, n, want)
		}
	}
}

func TestCheck(t *testing.T) {
	for _, x := range kinds() {
		if !math.IsNaN(x) && !endless(x) {
			endsWith(t, "x check", x, bits(x))
			continue
		}
		isOdd(t, prog(t, "x check"), x, 1, x)
		isOdd(t, prog(t, "x check drop 1"), x, 1, x)
		isOdd(t, prog(t, "3 x check +"), x, 2, 3, x)
	}
	endsWith(t, "x check check", -0x1p-1074, 1<<63+1)
	endsWith(t, "nan x check swap drop", 4, bits(4))
	isOdd(t, prog(t, "1 x / check"), 0, 3, math.Inf(1))
	isOdd(t, prog(t, "0 x / check"), 0, 3, math.NaN())
	isOdd(t, prog(t, "1 x / check"), math.Copysign(0, -1), 3, math.Inf(-1))
}

func TestPick(t *testing.T) {
	for _, c := range []float64{0x1p-1074, 0x1p-1022, 0.5, 1, math.MaxFloat64, math.Inf(1)} {
		endsWith(t, "1 2 x pick", c, bits(1))
		endsWith(t, "1 2 x pick", -c, bits(2))
	}
	endsWith(t, "1 2 x pick", 0, bits(2))
	endsWith(t, "1 2 x pick", math.Copysign(0, -1), bits(2))
	endsWith(t, "1 2 x pick", math.NaN(), bits(2))
	for _, x := range kinds() {
		endsWith(t, "x 2 1 pick", x, bits(x))
		endsWith(t, "2 x 0 pick", x, bits(x))
		for _, b := range kinds() {
			hold(t, []api.Code{step(api.CodeNum, x), step(api.CodeNum, b), {Op: api.CodeX}, {Op: api.CodePick}}, x)
			hold(t, []api.Code{step(api.CodeNum, 3), step(api.CodeNum, b), {Op: api.CodeX}, {Op: api.CodePick}}, x)
		}
	}
}

// Whatever bits of the NaN are handed in, and by whatever step it comes up, its bits are one's.
func TestTheNaNIsOne(t *testing.T) {
	for _, b := range append(nans(), theNaN) {
		for _, s := range []string{"x", "x neg", "x abs", "x floor", "x dup drop", "x 1 +", "1 x -", "x x *", "x 2 /", "1 x max", "x x min", "x 1 1 pick", "1 x 0 pick", "1 x swap drop", "x neg neg"} {
			endsWith(t, s, of(b), theNaN)
		}
		if l, n := expr.Trace(prog(t, "x dup neg"), of(b)); !slices.Equal(l, []uint64{theNaN, theNaN}) || n != 3 {
			t.Errorf("%x: %x %d", b, l, n)
		}
	}
}

// P14.1: what goes wrong

func TestAStepTakesMoreThanThereIs(t *testing.T) {
	for op := 1; op <= 16; op++ {
		need := takes(op)
		for there := range need {
			p := append(times(there, api.CodeX), step(op, 1))
			var left []float64
			for range there {
				left = append(left, 2.5)
			}
			isOdd(t, p, 2.5, there, left...)
			isOdd(t, append(p, api.Code{Op: api.CodeX}), 2.5, there, left...) // nothing is done behind it
			if n, ok := expr.Depth(p); n != 0 || ok {
				t.Error(op, there, n, ok)
			}
		}
		p := append(times(need, api.CodeX), step(op, 1))
		if l, n := expr.Trace(p, 2.5); len(l) != puts(op) || n != len(p) {
			t.Error(op, l, n)
		}
		if n, ok := expr.Depth(p); n != puts(op) || !ok {
			t.Error(op, n, ok)
		}
	}
}

func TestAStepPutsTooMuch(t *testing.T) {
	full := times(8, api.CodeX)
	eight := slices.Repeat([]float64{-3}, 8)
	for op := 1; op <= 16; op++ {
		p := append(slices.Clone(full), step(op, -3))
		height, ok := expr.Depth(p)
		if puts(op) > takes(op) {
			isOdd(t, p, -3, 8, eight...)
			if height != 0 || ok {
				t.Error(op, height, ok)
			}
			isOdd(t, append(p, times(7, api.CodeDrop)...), -3, 8, eight...)
			continue
		}
		if l, n := expr.Trace(p, -3); len(l) != 8-takes(op)+puts(op) || n != 9 {
			t.Error(op, l, n)
		}
		if height != 8-takes(op)+puts(op) || !ok {
			t.Error(op, height, ok)
		}
	}
	for op := 1; op <= 16; op++ {
		if puts(op) <= takes(op) {
			continue
		}
		p := append(times(7, api.CodeX), step(op, -3)) // it just fills the stack
		if l, n := expr.Trace(p, -3); len(l) != 8 || n != 8 {
			t.Error(op, l, n)
		}
		p = append(p, times(7, api.CodeDrop)...)
		if y, e := expr.Run(p, -3); y != -3 || e != api.OK {
			t.Error(op, y, e)
		}
		if n, ok := expr.Depth(p); n != 1 || !ok {
			t.Error(op, n, ok)
		}
	}
	all := slices.Concat(full, times(7, api.CodeAdd), full[:7], times(7, api.CodeAdd)) // full twice
	if y, e := expr.Run(all, 2); y != 30 || e != api.OK {
		t.Error(y, e)
	}
}

func TestNotJustOneAtTheEnd(t *testing.T) {
	isOdd(t, prog(t, "x drop"), 1, 2)
	isOdd(t, prog(t, "x x"), 1, 2, 1, 1)
	isOdd(t, prog(t, "1 x 2 3 +"), 4, 5, 1, 4, 5)
	isOdd(t, times(8, api.CodeX), 6, 8, 6, 6, 6, 6, 6, 6, 6, 6)
	isOdd(t, slices.Concat(times(1, api.CodeX), times(30, api.CodeNeg), times(1, api.CodeDup)), 6, 32, 6, 6)
	endsWith(t, "x", 1, bits(1))
	endsWith(t, "x x drop", 1, bits(1))
	if y, e := expr.Run(append(times(1, api.CodeX), times(31, api.CodeNeg)...), 6); y != -6 || e != api.OK {
		t.Error(y, e)
	}
}

// What is no program is told ahead of what would go wrong.
func TestNoProgramComesFirst(t *testing.T) {
	isNone(t, append(prog(t, "+"), api.Code{Op: 17}))
	isNone(t, append(prog(t, "x 0 / check"), api.Code{Op: api.CodeX, Bits: 1}))
	isNone(t, append(times(32, api.CodeDrop), api.Code{Op: api.CodeX}))
	isNone(t, append(prog(t, "x drop"), api.Code{Op: api.CodeNum, Bits: theNaN + 1}))
	for _, x := range kinds() {
		if y, e := expr.Run([]api.Code{{Op: api.CodeCheck, Bits: 1}}, x); math.Float64bits(y) != 0 || e != api.ErrArg {
			t.Error(x, y, e)
		}
	}
}

// P14.1: Trace

func TestTraceStopsWhereItGoesWrong(t *testing.T) {
	isOdd(t, prog(t, "+"), 1, 0)
	isOdd(t, prog(t, "drop x"), 1, 0)
	isOdd(t, prog(t, "check x"), 1, 0)
	isOdd(t, prog(t, "x + 3"), 1, 1, 1)
	isOdd(t, prog(t, "x 3 check pick"), 1, 3, 1, 3)
	isOdd(t, prog(t, "x 2 * x pick neg"), 4, 4, 8, 4)
	isOdd(t, prog(t, "x 0 / check neg"), -1, 3, math.Inf(-1))
	isOdd(t, prog(t, "x 2 swap"), 9, 3, 2, 9)
	isOdd(t, prog(t, "x 2 swap drop swap"), 9, 4, 2)
	if l, n := expr.Trace(prog(t, "x 3 +"), 4); !slices.Equal(l, []uint64{bits(7)}) || n != 3 {
		t.Error(l, n)
	}
	if l, n := expr.Trace(prog(t, "x drop"), 4); len(l) != 0 || n != 2 {
		t.Error(l, n)
	}
}

func TestTraceIsTheCallersOwn(t *testing.T) {
	p := append(times(8, api.CodeX), times(24, api.CodeSwap)...)
	first, _ := expr.Trace(p, 2)
	second, _ := expr.Trace(p, 2)
	for i := range first {
		first[i] = 9
	}
	first = append(first, 9)
	third, n := expr.Trace(p, 2)
	want := slices.Repeat([]uint64{bits(2)}, 8)
	if !slices.Equal(second, want) || !slices.Equal(third, want) || n != 32 || len(first) != 9 {
		t.Error(second, third, n)
	}
}

// A program is only read, and no more of the list than is handed in.
func TestProgramsStayAsTheyAre(t *testing.T) {
	room := append(prog(t, "x dup * 3 + check"), api.Code{Op: 99, Bits: 99}, api.Code{Op: 98, Bits: 98})
	p, kept := room[:6], slices.Clone(room)
	for range 2 {
		if y, e := expr.Run(p, 4); y != 19 || e != api.OK {
			t.Error(y, e)
		}
		expr.Trace(p, math.Inf(1))
		if n, ok := expr.Depth(p); n != 1 || !ok || !expr.Right(p) {
			t.Error(n, ok)
		}
		if !slices.Equal(room, kept) {
			t.Error(room)
		}
	}
}

// P14.2

func TestDepth(t *testing.T) {
	for s, want := range map[string]int{
		"x": 1, "3": 1, "x x": 2, "x dup dup": 3, "x drop": 0, "x 2 *": 1, "x 1 2 pick": 1, "x x swap": 2, "x neg abs floor": 1,
		"x x x x x x x x": 8, "x x x x x x x dup": 8, "x x x x x x x x pick": 6, "x x x x x x x x swap drop": 7,
		"inf check": 1, "nan check check": 1, "1 0 / check": 1, "1 0 / check dup": 2, // that the check goes wrong isn't told
	} {
		if n, ok := expr.Depth(prog(t, s)); n != want || !ok {
			t.Errorf("%s: %d %v, not %d", s, n, ok, want)
		}
	}
	for _, s := range []string{
		"+", "check", "dup", "swap", "drop", "pick", "neg", "x +", "x swap", "x x pick", "x pick", "x drop drop", "x drop neg",
		"x x x x x x x x x", "x x x x x x x x 1", "x x x x x x x x dup", "x x x x x x x x x drop", "drop x", "x + x", "inf check drop drop",
	} {
		if n, ok := expr.Depth(prog(t, s)); n != 0 || ok {
			t.Errorf("%s: %d %v, not false", s, n, ok)
		}
	}
}

// Examples

func TestExamplesOfTheChapter(t *testing.T) {
	for _, x := range []float64{0, 1, -2.5, 0.1, 1e308, math.Inf(-1)} {
		endsWith(t, "x 2 *", x, bits(2*x))
	}
	isOdd(t, prog(t, "x check"), math.Inf(1), 1, math.Inf(1))
}

func ExampleRun() {
	twice := []api.Code{{Op: api.CodeX}, {Op: api.CodeNum, Bits: num.Bits(2)}, {Op: api.CodeMul}}
	fmt.Println(expr.Run(twice, 21))
	fmt.Println(expr.Run([]api.Code{{Op: api.CodeX}, {Op: api.CodeCheck}}, math.Inf(1)))
	fmt.Println(expr.Run(nil, 1))
	// Output:
	// 42 0
	// 0 20
	// 0 1
}

func ExampleTrace() {
	p := []api.Code{{Op: api.CodeX}, {Op: api.CodeDup}, {Op: api.CodeMul}, {Op: api.CodePick}}
	l, done := expr.Trace(p, 3)
	fmt.Println(num.From(l[0]), done)
	// Output: 9 3
}

func ExampleDepth() {
	fmt.Println(expr.Depth([]api.Code{{Op: api.CodeX}, {Op: api.CodeDup}}))
	fmt.Println(expr.Depth([]api.Code{{Op: api.CodeX}, {Op: api.CodeAdd}}))
	// Output:
	// 2 true
	// 0 false
}
