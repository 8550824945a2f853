package expr

import (
	"math"
	"runtime"
	"slices"
	"testing"

	"cloisonne/api"
)

// A step that goes wrong ends at that step, and leaves the stack ahead of it as it was (P14.1); what isn't odd goes on, as it is.

func TestOddStepsAreCaught(t *testing.T) {
	s := []float64{1, math.Inf(1)}
	for _, op := range []int{api.CodePick, api.CodeCheck} { // one takes too many, the other goes wrong by itself
		if next, ok := step(s, api.Code{Op: op}, 0); len(next) != 0 || ok {
			t.Error(op, next, ok)
		}
	}
}

func TestStepsLeaveTheStackAhead(t *testing.T) {
	s := []float64{1, 2}
	next, ok := step(s[:1], api.Code{Op: api.CodeX}, 9)
	if !slices.Equal(next, []float64{1, 9}) || !ok || !slices.Equal(s, []float64{1, 2}) {
		t.Error(next, ok, s)
	}
}

func TestAnythingElseGoesOn(t *testing.T) {
	for _, op := range []int{0, api.CodePick + 1, -1} { // no program has such steps
		func() {
			defer func() {
				if _, ok := recover().(runtime.Error); !ok {
					t.Errorf("%d: it didn't come up", op)
				}
			}()
			step([]float64{}, api.Code{Op: op}, 0)
		}()
	}
}
