package expr

import (
	"math"
	"slices"

	"cloisonne/api"
	"cloisonne/num"
)

// change is how many numbers a step takes off the stack, and how many it puts there.
type change struct {
	takes, puts int
}

// changes are those of each step: apart from what a step does with its numbers, since how high the stack is doesn't hang on them.
var changes = [...]change{
	api.CodeX:     {0, 1},
	api.CodeNum:   {0, 1},
	api.CodeAdd:   {2, 1},
	api.CodeSub:   {2, 1},
	api.CodeMul:   {2, 1},
	api.CodeDiv:   {2, 1},
	api.CodeMin:   {2, 1},
	api.CodeMax:   {2, 1},
	api.CodeNeg:   {1, 1},
	api.CodeAbs:   {1, 1},
	api.CodeFloor: {1, 1},
	api.CodeDup:   {1, 2},
	api.CodeSwap:  {2, 2},
	api.CodeDrop:  {1, 0},
	api.CodeCheck: {1, 1},
	api.CodePick:  {3, 1},
}

// heights tells how many numbers a step leaves alone, and how many there are behind it; false, if it takes or puts too many.
func heights(height, op int) (kept, next int, ok bool) {
	kept = height - changes[op].takes
	next = kept + changes[op].puts
	return kept, next, kept >= 0 && next <= api.MaxStack
}

// odd is what comes up where a step goes wrong.
type odd struct{}

// run does steps as long as they go well; it tells the stack behind them, and how many these are.
func run(p []api.Code, x float64) ([]float64, int) {
	var s []float64
	for i, c := range p {
		next, ok := step(s, c, x)
		if !ok {
			return s, i
		}
		s = next
	}
	return s, len(p)
}

// step tells the stack behind a step; false, if it goes wrong. Only what is odd ends here: anything else goes on.
func step(s []float64, c api.Code, x float64) (next []float64, ok bool) {
	defer func() {
		caught := recover()
		if _, wrong := caught.(odd); caught != nil && !wrong {
			panic(caught)
		}
	}()
	return behind(s, c, x), true
}

// behind tells the stack behind a step in memory of its own: the one ahead is still asked for, if the step goes wrong midway.
func behind(s []float64, c api.Code, x float64) []float64 {
	kept, _, ok := heights(len(s), c.Op)
	if !ok {
		panic(odd{})
	}
	next := slices.Clone(s[:kept])
	for _, y := range made(c, x, s[kept:]) {
		next = append(next, num.From(num.Bits(y))) // whichever NaN came up, it is the NaN from here on
	}
	return next
}

// made tells what a step puts for the numbers that it takes.
func made(c api.Code, x float64, taken []float64) []float64 {
	switch c.Op {
	case api.CodeX:
		return []float64{x}
	case api.CodeNum:
		return []float64{num.From(c.Bits)}
	case api.CodeNeg, api.CodeAbs, api.CodeFloor:
		return []float64{ofOne(c.Op, taken[0])}
	case api.CodeDup:
		return []float64{taken[0], taken[0]}
	case api.CodeSwap:
		return []float64{taken[1], taken[0]}
	case api.CodeDrop:
		return nil
	case api.CodeCheck:
		return []float64{finite(taken[0])}
	case api.CodePick:
		return []float64{pick(taken[0], taken[1], taken[2])}
	}
	return []float64{ofTwo(c.Op, taken[0], taken[1])}
}

// ofOne tells what a step makes of one number.
func ofOne(op int, a float64) float64 {
	switch op {
	case api.CodeNeg:
		return -a
	case api.CodeAbs:
		return math.Abs(a)
	}
	return math.Floor(a)
}

// ofTwo tells what a step makes of two numbers.
func ofTwo(op int, a, b float64) float64 {
	switch op {
	case api.CodeAdd:
		return a + b
	case api.CodeSub:
		return a - b
	case api.CodeMul:
		return a * b
	case api.CodeDiv:
		return a / b
	case api.CodeMin:
		return slices.MinFunc([]float64{a, b}, num.Order)
	}
	return slices.MaxFunc([]float64{a, b}, num.Order)
}

// finite tells a itself, and comes up as odd, if it is the NaN, or infinite.
func finite(a float64) float64 {
	if math.IsNaN(a) || math.IsInf(a, 0) {
		panic(odd{})
	}
	return a
}

// pick tells a, if c is above nought, else b.
func pick(a, b, c float64) float64 {
	if c > 0 { // minus nought isn't, nor is the NaN, though it stands last in the order
		return a
	}
	return b
}
