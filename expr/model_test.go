package expr_test

import (
	"fmt"
	"math"
	"math/big"
	"slices"
	"testing"

	"cloisonne/api"
	"cloisonne/expr"
)

// The model reckons by whole numbers of any size, not by floats: what a float would round is rounded by math/big.

const theNaN = 0x7FF8000000000001

func of(bits uint64) float64 { return math.Float64frombits(bits) }

// exact tells a finite number as it is.
func exact(x float64) *big.Rat { return new(big.Rat).SetFloat64(x) }

// rounded tells the nearest number, ties to even, with the sign that is told, as r itself is above nought, or nought.
func rounded(r *big.Rat, minus bool) float64 {
	x, _ := r.Float64()
	return math.Copysign(x, sign(minus))
}

func sign(minus bool) float64 {
	if minus {
		return -1
	}
	return 1
}

func endless(x float64) bool { return math.IsInf(x, 0) }

func sum(a, b float64) float64 {
	switch {
	case math.IsNaN(a), math.IsNaN(b), endless(a) && endless(b) && a != b:
		return math.NaN()
	case endless(a):
		return a
	case endless(b):
		return b
	}
	r := new(big.Rat).Add(exact(a), exact(b))
	if r.Sign() == 0 { // just of two minus noughts there is one
		return rounded(r, math.Signbit(a) && math.Signbit(b))
	}
	return rounded(new(big.Rat).Abs(r), r.Sign() < 0)
}

func product(a, b float64) float64 {
	minus := math.Signbit(a) != math.Signbit(b)
	switch {
	case math.IsNaN(a), math.IsNaN(b), endless(a) && b == 0, endless(b) && a == 0:
		return math.NaN()
	case endless(a), endless(b):
		return math.Inf(int(sign(minus)))
	}
	r := new(big.Rat).Mul(exact(a), exact(b))
	return rounded(r.Abs(r), minus)
}

func quotient(a, b float64) float64 {
	minus := math.Signbit(a) != math.Signbit(b)
	switch {
	case math.IsNaN(a), math.IsNaN(b), endless(a) && endless(b), a == 0 && b == 0:
		return math.NaN()
	case endless(a), b == 0:
		return math.Inf(int(sign(minus)))
	case endless(b):
		return math.Copysign(0, sign(minus))
	}
	r := new(big.Rat).Quo(exact(a), exact(b))
	return rounded(r.Abs(r), minus)
}

// ahead tells whether a stands ahead of b: the noughts by their signs, the NaN last.
func ahead(a, b float64) bool {
	switch {
	case math.IsNaN(a):
		return false
	case math.IsNaN(b):
		return true
	case a == 0 && b == 0:
		return math.Signbit(a) && !math.Signbit(b)
	}
	return a < b
}

func first(a, b float64) float64 {
	if ahead(b, a) {
		return b
	}
	return a
}

func second(a, b float64) float64 {
	if ahead(b, a) {
		return a
	}
	return b
}

// turned has the other sign, by its bits.
func turned(x float64) float64 { return of(math.Float64bits(x) ^ 1<<63) }

func unsigned(x float64) float64 { return of(math.Float64bits(x) &^ (1 << 63)) }

func floor(x float64) float64 {
	if math.IsNaN(x) || endless(x) || x == 0 {
		return x
	}
	r := exact(x)
	n := new(big.Int).Div(r.Num(), r.Denom()) // what is left over isn't below nought
	y, _ := new(big.Float).SetInt(n).Float64()
	return y
}

// takes is how many numbers each step takes, puts how many it puts.
func takes(op int) int {
	switch op {
	case api.CodeX, api.CodeNum:
		return 0
	case api.CodeNeg, api.CodeAbs, api.CodeFloor, api.CodeDup, api.CodeDrop, api.CodeCheck:
		return 1
	case api.CodePick:
		return 3
	}
	return 2
}

func puts(op int) int {
	switch op {
	case api.CodeDrop:
		return 0
	case api.CodeDup, api.CodeSwap:
		return 2
	}
	return 1
}

// does tells what a step puts for a, b and c, the last one first; false, if it goes wrong by itself.
func does(op int, c, b, a float64) ([]float64, bool) {
	switch op {
	case api.CodeAdd:
		return []float64{sum(b, c)}, true
	case api.CodeSub:
		return []float64{sum(b, turned(c))}, true
	case api.CodeMul:
		return []float64{product(b, c)}, true
	case api.CodeDiv:
		return []float64{quotient(b, c)}, true
	case api.CodeMin:
		return []float64{first(b, c)}, true
	case api.CodeMax:
		return []float64{second(b, c)}, true
	case api.CodeNeg:
		return []float64{turned(c)}, true
	case api.CodeAbs:
		return []float64{unsigned(c)}, true
	case api.CodeFloor:
		return []float64{floor(c)}, true
	case api.CodeDup:
		return []float64{c, c}, true
	case api.CodeSwap:
		return []float64{c, b}, true
	case api.CodeDrop:
		return nil, true
	case api.CodeCheck:
		return []float64{c}, !math.IsNaN(c) && !endless(c)
	}
	if ahead(0, c) && !math.IsNaN(c) {
		return []float64{a}, true
	}
	return []float64{b}, true
}

// bits are those of the number: each NaN's are one's.
func bits(x float64) uint64 {
	if math.IsNaN(x) {
		return theNaN
	}
	return math.Float64bits(x)
}

// traced tells by the chapter's words what Trace tells of a program.
func traced(p []api.Code, x float64) ([]uint64, int) {
	var l []uint64
	for i, c := range p {
		if len(l) < takes(c.Op) || len(l)-takes(c.Op)+puts(c.Op) > 8 {
			return l, i
		}
		switch c.Op {
		case api.CodeX:
			l = append(l, bits(x))
			continue
		case api.CodeNum:
			l = append(l, c.Bits)
			continue
		}
		var of3 [3]float64 // the last one first
		for j := range takes(c.Op) {
			of3[j] = of(l[len(l)-1-j])
		}
		made, ok := does(c.Op, of3[0], of3[1], of3[2])
		if !ok {
			return l, i
		}
		l = l[:len(l)-takes(c.Op)]
		for _, y := range made {
			l = append(l, bits(y))
		}
	}
	return l, len(p)
}

// deep tells by the chapter's words what Depth tells of a program.
func deep(p []api.Code) (int, bool) {
	height := 0
	for _, c := range p {
		if height < takes(c.Op) {
			return 0, false
		}
		if height += puts(c.Op) - takes(c.Op); height > 8 {
			return 0, false
		}
	}
	return height, true
}

// hold holds all calls against the model, for one program and one number.
func hold(t *testing.T, p []api.Code, x float64) {
	t.Helper()
	if !expr.Right(p) {
		t.Fatalf("Right(%v): false", p)
	}
	wantList, wantDone := traced(p, x)
	l, done := expr.Trace(p, x)
	if !slices.Equal(l, wantList) || done != wantDone {
		t.Fatalf("Trace(%v, %x): %x %d, not %x %d", p, bits(x), l, done, wantList, wantDone)
	}
	want, wantErr := uint64(0), api.ErrOdd
	if wantDone == len(p) && len(wantList) == 1 {
		want, wantErr = wantList[0], api.OK
	}
	y, e := expr.Run(p, x)
	if math.Float64bits(y) != want || e != wantErr {
		t.Fatalf("Run(%v, %x): %x %d, not %x %d", p, bits(x), math.Float64bits(y), e, want, wantErr)
	}
	wantHeight, wantOK := deep(p)
	if n, ok := expr.Depth(p); n != wantHeight || ok != wantOK {
		t.Fatalf("Depth(%v): %d %v, not %d %v", p, n, ok, wantHeight, wantOK)
	}
}

// picks are numbers from 0 on that look like any, and are the same ones each time.
func picks(seed uint64) func(below int) int {
	return func(below int) int {
		seed += 0x9E3779B97F4A7C15
		x := (seed ^ seed>>30) * 0xBF58476D1CE4E5B9
		x = (x ^ x>>27) * 0x94D049BB133111EB
		return int((x ^ x>>31) >> 1 % uint64(below))
	}
}

// some tells a number: of the kinds, or whole and small, or any bits at all.
func some(pick func(below int) int) float64 {
	switch pick(3) {
	case 0:
		return kinds()[pick(len(kinds()))]
	case 1:
		return float64(pick(9) - 4)
	}
	return of(bits(of(uint64(pick(1<<62))<<2 ^ uint64(pick(1<<62)))))
}

func step(op int, x float64) api.Code {
	if op == api.CodeNum {
		return api.Code{Op: op, Bits: bits(x)}
	}
	return api.Code{Op: op}
}

// P14.1, P14.2: all programs of few steps.

func TestModelOfAllShortPrograms(t *testing.T) {
	numbers := []float64{2.5, math.Copysign(0, -1), math.Inf(-1), math.NaN()}
	for size := 1; size <= 4; size++ {
		total := 1
		for range size {
			total *= api.CodePick
		}
		p := make([]api.Code, size)
		for way := range total {
			rest := way
			for i := range p {
				p[i] = step(rest%api.CodePick+1, -1.5)
				rest /= api.CodePick
			}
			if size == 4 { // one number each is enough of so many
				hold(t, p, numbers[way%7%len(numbers)])
				continue
			}
			for _, x := range numbers {
				hold(t, p, x)
			}
		}
	}
}

// walk makes a program: mostly of steps that don't run out of the stack, so that it gets on.
func walk(pick func(below int) int, size, wild int) []api.Code {
	var p []api.Code
	for len(p) < size {
		c := step(pick(api.CodePick)+1, some(pick))
		if _, ok := deep(append(slices.Clone(p), c)); ok || pick(wild) == 0 {
			p = append(p, c)
		}
	}
	return p
}

func TestModelOfLongPrograms(t *testing.T) {
	pick := picks(14)
	for range 3000 {
		p := walk(pick, pick(api.MaxCode)+1, 400)
		for range 3 {
			hold(t, p, some(pick))
		}
	}
}

// Programs that end with one number, since what is too much is taken off, one by one.
func TestModelOfProgramsThatEnd(t *testing.T) {
	pick := picks(15)
	ended := 0
	for range 3000 {
		p := walk(pick, pick(api.MaxCode-9)+1, 1<<40)
		if n, _ := deep(p); n == 0 {
			p = append(p, step(api.CodeX, 0))
		}
		for n, _ := deep(p); n > 1; n, _ = deep(p) {
			p = append(p, step([]int{api.CodeAdd, api.CodeMul, api.CodeMin, api.CodeDrop, api.CodeSub, api.CodeDiv}[pick(6)], 0))
		}
		x := some(pick)
		hold(t, p, x)
		if _, e := expr.Run(p, x); e == api.OK {
			ended++
		}
	}
	if ended < 1000 {
		t.Fatal("too few programs end:", ended)
	}
}

// P14.3

// atEnd tells what Trace has at the end, as Run tells it.
func atEnd(p []api.Code, x float64) string {
	l, done := expr.Trace(p, x)
	if done == len(p) && len(l) == 1 {
		return fmt.Sprintf("%x %d", l[0], api.OK)
	}
	return fmt.Sprintf("%x %d", 0, api.ErrOdd)
}

func TestRunIsWhatTraceHasAtTheEnd(t *testing.T) {
	pick := picks(16)
	for range 3000 {
		p, x := walk(pick, pick(12)+1, 50), some(pick)
		y, e := expr.Run(p, x)
		if got := fmt.Sprintf("%x %d", math.Float64bits(y), e); got != atEnd(p, x) {
			t.Fatalf("%v of %x: %s, but Trace has %s", p, bits(x), got, atEnd(p, x))
		}
	}
}

// Without CodeCheck a program goes just as far for each number; with it, it goes on behind a check for none that Depth doesn't let.
func TestTheStackDoesNotHangOnTheNumber(t *testing.T) {
	pick := picks(17)
	for range 2000 {
		p := walk(pick, pick(api.MaxCode)+1, 60)
		height, ok := expr.Depth(p)
		plain := !slices.ContainsFunc(p, func(c api.Code) bool { return c.Op == api.CodeCheck })
		for _, x := range []float64{0, math.Copysign(0, -1), 1, -2.5, math.MaxFloat64, math.Inf(1), math.NaN(), some(pick)} {
			l, done := expr.Trace(p, x)
			switch {
			case done == len(p) && (!ok || len(l) != height):
				t.Fatalf("%v of %x: all steps went well, and %d numbers, but Depth %d %v", p, bits(x), len(l), height, ok)
			case done < len(p) && ok && p[done].Op != api.CodeCheck:
				t.Fatalf("%v of %x: step %d went wrong, which Depth didn't tell", p, bits(x), done)
			case plain && ok != (done == len(p)):
				t.Fatalf("%v of %x: %d steps went well, but Depth %v", p, bits(x), done, ok)
			}
			if n, upTo := expr.Depth(p[:done]); done > 0 && (n != len(l) || !upTo) {
				t.Fatalf("%v of %x: %d numbers behind %d steps, but Depth %d %v", p, bits(x), len(l), done, n, upTo)
			}
		}
	}
}
